package field

import (
	"bytes"
	"math"
	"math/big"
	"slices"
	"testing"
)

// edges are the numbers at which the length of an encoding changes, and the ends of the kinds of numbers.
func edges() []uint64 {
	out := []uint64{0, 1, 2, 127, 128, math.MaxUint64 - 1, math.MaxUint64}
	for bit := 7; bit < 64; bit++ {
		p := uint64(1) << bit
		out = append(out, p-1, p, p+1)
	}
	return out
}

// signedEdges are those of edges that an int64 can be, with both signs, and the least number.
func signedEdges() []int64 {
	out := []int64{math.MinInt64}
	for _, n := range edges() {
		if n <= math.MaxInt64 {
			out = append(out, int64(n), -int64(n))
		}
	}
	return out
}

// plainNumber follows the document's words by another means than the package does.
func plainNumber(n *big.Int) []byte {
	digits := n.Bytes()
	return append([]byte{byte(len(digits))}, digits...)
}

func plainInt(x *big.Int) []byte {
	b := plainNumber(new(big.Int).Abs(x))
	if x.Sign() < 0 {
		b[0] += 16
	}
	return b
}

// P2.1

func TestNumberExamples(t *testing.T) {
	for _, c := range []struct {
		n    uint64
		want []byte
	}{
		{0, []byte{0}},
		{1, []byte{1, 1}},
		{16, []byte{1, 16}},
		{255, []byte{1, 255}},
		{256, []byte{2, 1, 0}},
		{258, []byte{2, 1, 2}},
		{65535, []byte{2, 255, 255}},
		{65536, []byte{3, 1, 0, 0}},
		{math.MaxInt64, []byte{8, 127, 255, 255, 255, 255, 255, 255, 255}},
		{1 << 63, []byte{8, 128, 0, 0, 0, 0, 0, 0, 0}},
		{math.MaxUint64, []byte{8, 255, 255, 255, 255, 255, 255, 255, 255}},
	} {
		if got := Number(c.n); !bytes.Equal(got, c.want) {
			t.Errorf("Number(%d) = %v, want %v", c.n, got, c.want)
		}
	}
}

func TestNumberAtEveryEdge(t *testing.T) {
	for _, n := range edges() {
		if got, want := Number(n), plainNumber(new(big.Int).SetUint64(n)); !bytes.Equal(got, want) {
			t.Errorf("Number(%d) = %v, want %v", n, got, want)
		}
	}
}

func TestIntExamples(t *testing.T) {
	for _, c := range []struct {
		x    int64
		want []byte
	}{
		{0, []byte{0}},
		{1, []byte{1, 1}},
		{-1, []byte{17, 1}},
		{-16, []byte{17, 16}},
		{-255, []byte{17, 255}},
		{-256, []byte{18, 1, 0}},
		{258, []byte{2, 1, 2}},
		{-258, []byte{18, 1, 2}},
		{math.MaxInt64, []byte{8, 127, 255, 255, 255, 255, 255, 255, 255}},
		{-math.MaxInt64, []byte{24, 127, 255, 255, 255, 255, 255, 255, 255}},
		{math.MinInt64, []byte{24, 128, 0, 0, 0, 0, 0, 0, 0}},
	} {
		if got := Int(c.x); !bytes.Equal(got, c.want) {
			t.Errorf("Int(%d) = %v, want %v", c.x, got, c.want)
		}
	}
}

func TestIntAtEveryEdge(t *testing.T) {
	for _, x := range signedEdges() {
		if got, want := Int(x), plainInt(big.NewInt(x)); !bytes.Equal(got, want) {
			t.Errorf("Int(%d) = %v, want %v", x, got, want)
		}
	}
}

func TestTextExamples(t *testing.T) {
	for _, c := range []struct{ in, want []byte }{
		{nil, []byte{0}},
		{[]byte{}, []byte{0}},
		{[]byte{0}, []byte{1, 1, 0}},
		{[]byte{7, 8}, []byte{1, 2, 7, 8}},
		{[]byte{255, 0, 255}, []byte{1, 3, 255, 0, 255}},
	} {
		if got := Text(c.in); !bytes.Equal(got, c.want) {
			t.Errorf("Text(%v) = %v, want %v", c.in, got, c.want)
		}
	}
}

func TestTextOfEveryLengthOfLength(t *testing.T) {
	for _, n := range []int{254, 255, 256, 257, 65535, 65536, 1 << 20} {
		b := bytes.Repeat([]byte{1, 2, 3}, n)[:n]
		want := append(plainNumber(big.NewInt(int64(n))), b...)
		if !bytes.Equal(Text(b), want) {
			t.Errorf("the encoding of %d bytes is wrong", n)
		}
	}
}

func TestTextSharesNoMemory(t *testing.T) {
	in := []byte{7, 8, 9}
	before := slices.Clone(in)
	out := Text(in)
	for i := range out {
		out[i] = 99
	}
	if !bytes.Equal(in, before) {
		t.Error("the argument has changed")
	}
	for _, b := range [][]byte{Number(258), Int(-258), Text(nil)} {
		b[0] = 99
	}
	if !bytes.Equal(Number(258), []byte{2, 1, 2}) || !bytes.Equal(Int(-258), []byte{18, 1, 2}) || !bytes.Equal(Text(nil), []byte{0}) {
		t.Error("two answers share memory")
	}
}
