package crc

import (
	"bytes"
	"encoding/binary"
	"hash/crc32"
	"math"
	"math/rand"
	"slices"
	"testing"

	"jetway/api"
)

const check = 3808858755

// someBytes are pseudo-random, but the same in every run.
func someBytes(seed int64, n int) []byte {
	b := make([]byte, n)
	rand.New(rand.NewSource(seed)).Read(b)
	return b
}

// stepped follows the document's words one step at a time, for comparison with the matrices.
func stepped(r uint32, times int) uint32 {
	for range times {
		if r&1 == 1 {
			r = r>>1 ^ 2197175160
		} else {
			r >>= 1
		}
	}
	return r
}

// library is another implementation of the same checksum.
func library(sum uint32, b []byte) uint32 {
	return crc32.Update(sum, crc32.MakeTable(crc32.Castagnoli), b)
}

func mustJoin(t *testing.T, a, b uint32, n int) uint32 {
	t.Helper()
	s, e := Join(a, b, n)
	if e != api.OK {
		t.Fatalf("Join(%d, %d, %d): error %d", a, b, n, e)
	}
	return s
}

// P1.1

func TestSumExamples(t *testing.T) {
	for _, c := range []struct {
		in   []byte
		want uint32
	}{
		{[]byte("123456789"), check},
		{nil, 0},
		{[]byte{}, 0},
		{[]byte("a"), 0xC1D04330},
		{make([]byte, 32), 0x8A9136AA},
		{bytes.Repeat([]byte{255}, 32), 0x62A8AB43},
	} {
		if got := Sum(c.in); got != c.want {
			t.Errorf("Sum(%v) = %d, want %d", c.in, got, c.want)
		}
	}
}

func TestAddExample(t *testing.T) {
	if got := Add(Sum([]byte("1234")), []byte("56789")); got != check {
		t.Errorf("got %d, want %d", got, uint32(check))
	}
}

func TestAddOfNothing(t *testing.T) {
	for _, sum := range []uint32{0, 1, check, 1 << 31, math.MaxUint32} {
		if got := Add(sum, nil); got != sum {
			t.Errorf("Add(%d, nil) = %d", sum, got)
		}
		if got := Add(sum, []byte{}); got != sum {
			t.Errorf("Add(%d, empty) = %d", sum, got)
		}
	}
}

func TestAddOfEveryByte(t *testing.T) {
	for _, sum := range []uint32{0, 1, check, 1 << 31, math.MaxUint32} {
		for c := range 256 {
			want := stepped(sum^math.MaxUint32^uint32(c), 8) ^ math.MaxUint32
			if got := Add(sum, []byte{byte(c)}); got != want {
				t.Errorf("Add(%d, %d) = %d, want %d", sum, c, got, want)
			}
		}
	}
}

func TestSumAndAddAgreeWithLibrary(t *testing.T) {
	for n := range 300 {
		b := someBytes(int64(n), n)
		if got, want := Sum(b), library(0, b); got != want {
			t.Errorf("Sum of %d bytes: %d, want %d", n, got, want)
		}
		sum := uint32(n) * 2654435761
		if got, want := Add(sum, b), library(sum, b); got != want {
			t.Errorf("Add(%d) of %d bytes: %d, want %d", sum, n, got, want)
		}
	}
	long := someBytes(1, api.MaxBytes+1)
	if got, want := Sum(long), library(0, long); got != want {
		t.Errorf("Sum of %d bytes: %d, want %d", len(long), got, want)
	}
}

func TestArgumentIsNotModified(t *testing.T) {
	b := someBytes(2, 100)
	before := slices.Clone(b)
	Sum(b)
	Add(7, b)
	if !bytes.Equal(b, before) {
		t.Error("the bytes have changed")
	}
}

// P1.2

func TestJoinExample(t *testing.T) {
	a, b := Sum([]byte("1234")), Sum([]byte("56789"))
	if got := mustJoin(t, a, b, 5); got != check {
		t.Errorf("got %d, want %d", got, uint32(check))
	}
}

func TestJoinByLengthZero(t *testing.T) {
	for _, c := range [][2]uint32{{0, 0}, {7, 9}, {1, math.MaxUint32}, {check, check}} {
		if got := mustJoin(t, c[0], c[1], 0); got != c[0]^c[1] {
			t.Errorf("Join(%d, %d, 0) = %d", c[0], c[1], got)
		}
	}
}

func TestJoinIsStepping(t *testing.T) {
	for _, a := range []uint32{0, 1, check, 1 << 31, math.MaxUint32} {
		want := a
		for n := range 2100 {
			if got := mustJoin(t, a, 12345, n); got != want^12345 {
				t.Fatalf("Join(%d, 12345, %d) = %d, want %d", a, n, got, want^12345)
			}
			want = stepped(want, 8)
		}
	}
}

func TestJoinOfEveryBit(t *testing.T) {
	for i := range 32 {
		bit := uint32(1) << i
		for _, n := range []int{1, 2, 3, 64, 1000} {
			if got, want := mustJoin(t, bit, 0, n), stepped(bit, 8*n); got != want {
				t.Errorf("Join(%d, 0, %d) = %d, want %d", bit, n, got, want)
			}
			if got := mustJoin(t, 0, bit, n); got != bit {
				t.Errorf("Join(0, %d, %d) = %d", bit, n, got)
			}
		}
	}
}

func TestJoinOfGreatLengths(t *testing.T) {
	lengths := []int{api.MaxBytes - 1, api.MaxBytes, 1000003}
	for n := 1; n < api.MaxBytes; n *= 2 {
		lengths = append(lengths, n)
	}
	for _, n := range lengths {
		if got, want := mustJoin(t, check, 99, n), stepped(check, 8*n)^99; got != want {
			t.Errorf("Join by %d: %d, want %d", n, got, want)
		}
	}
}

func TestJoinRefusesLengths(t *testing.T) {
	for _, n := range []int{-1, -2, -api.MaxBytes, math.MinInt, api.MaxBytes + 1, api.MaxBytes + 2, 1 << 32, math.MaxInt} {
		s, e := Join(1, 2, n)
		if e != api.ErrArg || s != 0 {
			t.Errorf("Join(1, 2, %d) = %d, %d; want 0, ErrArg", n, s, e)
		}
	}
}

// P1.3

func TestSumOfConcatenation(t *testing.T) {
	for i := range 40 {
		for j := range 40 {
			x, y := someBytes(int64(i), i), someBytes(int64(1000+j), j)
			whole := Sum(slices.Concat(x, y))
			if got := Add(Sum(x), y); got != whole {
				t.Errorf("Add, lengths %d and %d: %d, want %d", i, j, got, whole)
			}
			if got := mustJoin(t, Sum(x), Sum(y), j); got != whole {
				t.Errorf("Join, lengths %d and %d: %d, want %d", i, j, got, whole)
			}
		}
	}
}

func TestSumOfConcatenationOfGreatestLength(t *testing.T) {
	x, y := someBytes(3, 77), someBytes(4, api.MaxBytes)
	whole := Sum(slices.Concat(x, y))
	if got := Add(Sum(x), y); got != whole {
		t.Errorf("Add: %d, want %d", got, whole)
	}
	if got := mustJoin(t, Sum(x), Sum(y), len(y)); got != whole {
		t.Errorf("Join: %d, want %d", got, whole)
	}
}

func TestSumOfXor(t *testing.T) {
	for n := range 200 {
		x, y, z := someBytes(int64(3*n), n), someBytes(int64(3*n+1), n), someBytes(int64(3*n+2), n)
		all := make([]byte, n)
		for i := range n {
			all[i] = x[i] ^ y[i] ^ z[i]
		}
		if got, want := Sum(all), Sum(x)^Sum(y)^Sum(z); got != want {
			t.Errorf("%d bytes: %d, want %d", n, got, want)
		}
	}
}

// changes are by how much the checksum of b changes for each bit of the four bytes from at on.
func changes(b []byte, at int) []uint32 {
	var out []uint32
	for bit := range 32 {
		c := slices.Clone(b)
		c[at+bit/8] ^= 1 << (bit % 8)
		out = append(out, Sum(b)^Sum(c))
	}
	return out
}

// independent says whether no XOR of some of the numbers is 0.
func independent(numbers []uint32) bool {
	var reduced [32]uint32
next:
	for _, v := range numbers {
		for i := 31; i >= 0; i-- {
			if v>>i&1 == 0 {
				continue
			}
			if reduced[i] == 0 {
				reduced[i] = v
				continue next
			}
			v ^= reduced[i]
		}
		return false
	}
	return true
}

// As the checksum of an XOR is the XOR of the checksums, independent changes mean that no combination of them is missed.
func TestEveryDifferenceWithinFourBytesIsSeen(t *testing.T) {
	for n := 4; n < 30; n++ {
		b := someBytes(int64(n), n)
		for at := range n - 3 {
			if !independent(changes(b, at)) {
				t.Errorf("%d bytes: some difference from byte %d on is not seen", n, at)
			}
		}
	}
	b := someBytes(5, 5000)
	for _, at := range []int{0, 1, 2500, 4995, 4996} {
		if !independent(changes(b, at)) {
			t.Errorf("5000 bytes: some difference from byte %d on is not seen", at)
		}
	}
}

func TestSomeDifferencesWithinFourBytesAreSeen(t *testing.T) {
	random := rand.New(rand.NewSource(6))
	for range 20000 {
		b := someBytes(random.Int63(), 4+random.Intn(20))
		at := random.Intn(len(b) - 3)
		c := slices.Clone(b)
		random.Read(c[at : at+4])
		if !bytes.Equal(b, c) && Sum(b) == Sum(c) {
			t.Fatalf("%v and %v have the same checksum", b, c)
		}
	}
}

func TestSumOfBytesAndTheirOwnSum(t *testing.T) {
	for n := range 300 {
		b := someBytes(int64(n), n)
		if got := Sum(binary.LittleEndian.AppendUint32(b, Sum(b))); got != 1214729159 {
			t.Errorf("%d bytes: %d", n, got)
		}
	}
}
