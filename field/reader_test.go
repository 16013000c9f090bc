package field

import (
	"bytes"
	"math"
	"math/big"
	"math/rand"
	"slices"
	"testing"
)

// reading is one method of a Reader, called with the widest bounds.
type reading struct {
	name string
	zero func(r *Reader) bool // calls the method, and says whether it answered the zero value
}

func readings() []reading {
	return []reading{
		{"Number", func(r *Reader) bool { return r.Number(math.MaxUint64) == 0 }},
		{"Int", func(r *Reader) bool { return r.Int(math.MinInt64, math.MaxInt64) == 0 }},
		{"Text", func(r *Reader) bool { return len(r.Text(math.MaxInt)) == 0 }},
	}
}

func wantState(t *testing.T, what string, r *Reader, bad, whole bool) {
	t.Helper()
	if r.Bad() != bad || r.Whole() != whole {
		t.Errorf("%s: Bad %v, Whole %v; want %v, %v", what, r.Bad(), r.Whole(), bad, whole)
	}
}

// wantStuck checks that r has recorded an error, and that nothing can be read any more.
func wantStuck(t *testing.T, what string, r *Reader) {
	t.Helper()
	wantState(t, what, r, true, false)
	for _, m := range slices.Concat(readings(), readings()) {
		if !m.zero(r) {
			t.Errorf("%s: %s returns a value behind an error", what, m.name)
		}
		wantState(t, what+", then "+m.name, r, true, false)
	}
}

// P2.2

func TestNewIsWithoutError(t *testing.T) {
	wantState(t, "nil", New(nil), false, true)
	wantState(t, "empty", New([]byte{}), false, true)
	wantState(t, "a number", New([]byte{1, 5}), false, false)
	wantState(t, "no encoding", New([]byte{9}), false, false)
}

func TestReaderExample(t *testing.T) {
	r := New([]byte{2, 1, 2, 17, 1, 1, 2, 7, 8})
	if n := r.Number(1000); n != 258 {
		t.Errorf("Number: %d", n)
	}
	wantState(t, "after Number", r, false, false)
	if x := r.Int(-5, 5); x != -1 {
		t.Errorf("Int: %d", x)
	}
	wantState(t, "after Int", r, false, false)
	if b := r.Text(5); !bytes.Equal(b, []byte{7, 8}) {
		t.Errorf("Text: %v", b)
	}
	wantState(t, "after Text", r, false, true)
}

func TestReaderRefusesWrongBytes(t *testing.T) {
	full := []byte{255, 255, 255, 255, 255, 255, 255, 255}
	for _, c := range []struct {
		name string
		in   [][]byte
	}{
		{"Number", [][]byte{
			{}, {1}, {2}, {2, 1}, {8}, {8, 1, 2, 3, 4, 5, 6, 7}, // too short
			{1, 0}, {1, 0, 5}, {2, 0, 5}, {2, 0, 0}, {8, 0, 1, 2, 3, 4, 5, 6, 7}, // a leading zero byte
			{9}, {9, 1, 2, 3, 4, 5, 6, 7, 8, 9}, {15, 1}, {16}, {17, 1}, {24, 1, 2, 3, 4, 5, 6, 7, 8}, {255, 1}, // no such length
		}},
		{"Int", [][]byte{
			{}, {1}, {2, 1}, {17}, {18, 1}, {24}, {24, 1, 2, 3, 4, 5, 6, 7},
			{1, 0}, {2, 0, 5}, {17, 0}, {18, 0, 5}, {24, 0, 1, 2, 3, 4, 5, 6, 7},
			{9}, {9, 1, 2, 3, 4, 5, 6, 7, 8, 9}, {15, 1}, {16}, {16, 0}, {16, 1}, {25, 1, 2, 3, 4, 5, 6, 7, 8, 9}, {32}, {33, 1}, {255, 1},
			{8, 128, 0, 0, 0, 0, 0, 0, 0}, slices.Concat([]byte{8}, full), // beyond the greatest number
			{24, 128, 0, 0, 0, 0, 0, 0, 1}, slices.Concat([]byte{24}, full), // beyond the least number
		}},
		{"Text", [][]byte{
			{}, {1}, {2, 1},
			{1, 0}, {2, 0, 1, 7}, {9}, {16}, {17, 1, 7}, {255},
			{1, 1}, {1, 2, 7}, {1, 3, 7, 8}, {2, 1, 0, 7}, // a text that ends too soon
			{8, 127, 255, 255, 255, 255, 255, 255, 255, 7}, {8, 128, 0, 0, 0, 0, 0, 0, 0, 7},
			{8, 128, 0, 0, 0, 0, 0, 0, 1, 7}, slices.Concat([]byte{8}, full, []byte{7}),
		}},
	} {
		for _, m := range readings() {
			if m.name != c.name {
				continue
			}
			for _, in := range c.in {
				r := New(in)
				if !m.zero(r) {
					t.Errorf("%s of %v returns a value", c.name, in)
				}
				wantStuck(t, c.name, r)
			}
		}
	}
}

func TestNumberBounds(t *testing.T) {
	for _, n := range edges() {
		r := New(Number(n))
		if got := r.Number(n); got != n {
			t.Errorf("Number(%d) returns %d", n, got)
		}
		wantState(t, "the greatest that is allowed", r, false, true)
		if n == 0 {
			continue
		}
		for _, most := range []uint64{n - 1, n / 2, 0} {
			r = New(Number(n))
			if got := r.Number(most); got != 0 {
				t.Errorf("Number(%d) of %d returns %d", most, n, got)
			}
			wantStuck(t, "a number above most", r)
		}
	}
}

func TestIntBounds(t *testing.T) {
	for _, x := range signedEdges() {
		r := New(Int(x))
		if got := r.Int(x, x); got != x {
			t.Errorf("Int(%d, %d) returns %d", x, x, got)
		}
		wantState(t, "both bounds", r, false, true)
		if x < math.MaxInt64 {
			r = New(Int(x))
			if got := r.Int(x+1, math.MaxInt64); got != 0 {
				t.Errorf("Int(%d, ..) of %d returns %d", x+1, x, got)
			}
			wantStuck(t, "a number below low", r)
		}
		if x > math.MinInt64 {
			r = New(Int(x))
			if got := r.Int(math.MinInt64, x-1); got != 0 {
				t.Errorf("Int(.., %d) of %d returns %d", x-1, x, got)
			}
			wantStuck(t, "a number above high", r)
		}
	}
}

func TestIntBoundsThatNothingIsBetween(t *testing.T) {
	for _, x := range []int64{-6, -5, 0, 5, 6} {
		r := New(Int(x))
		if got := r.Int(5, -5); got != 0 {
			t.Errorf("Int(5, -5) of %d returns %d", x, got)
		}
		wantStuck(t, "low above high", r)
	}
}

func TestTextBounds(t *testing.T) {
	for _, n := range []int{0, 1, 2, 255, 256, 257, 65535, 65536} {
		b := bytes.Repeat([]byte{7}, n)
		for _, most := range []int{n, n + 1, math.MaxInt} {
			r := New(Text(b))
			if got := r.Text(most); !bytes.Equal(got, b) {
				t.Errorf("Text(%d) of %d bytes returns %d bytes", most, n, len(got))
			}
			wantState(t, "a text that is allowed", r, false, true)
		}
		for _, most := range []int{n - 1, -1, math.MinInt} {
			r := New(Text(b))
			if got := r.Text(most); len(got) != 0 {
				t.Errorf("Text(%d) of %d bytes returns %d bytes", most, n, len(got))
			}
			wantStuck(t, "a text above most", r)
		}
	}
}

func TestReaderIsApartFromItsBytes(t *testing.T) {
	in := []byte{1, 2, 7, 8, 1, 2, 9, 9}
	before := slices.Clone(in)
	r := New(in)
	first := r.Text(2)
	first[0] = 99
	_ = append(first, 99, 99)
	if !bytes.Equal(in, before) {
		t.Error("the argument has changed")
	}
	clear(in)
	second := r.Text(2)
	if !bytes.Equal(second, []byte{9, 9}) {
		t.Errorf("the second text is %v", second)
	}
	wantState(t, "after both", r, false, true)
	clear(second)
	if !bytes.Equal(first, []byte{99, 8}) {
		t.Error("two answers share memory")
	}
}

func TestReadersAreApart(t *testing.T) {
	in := []byte{1, 5}
	a, b := New(in), New(in)
	a.Number(4)
	wantState(t, "the one with an error", a, true, false)
	if n := b.Number(5); n != 5 {
		t.Errorf("the other one returns %d", n)
	}
	wantState(t, "the other one", b, false, true)
}

// plainPrefix is the value that a beginning of b encodes, found by trying all lengths.
func plainPrefix(b []byte, signed bool) (*big.Int, int) {
	for size := 0; size <= 8 && size < len(b); size++ {
		value := new(big.Int).SetBytes(b[1 : 1+size])
		if value.IsUint64() && !signed && bytes.Equal(plainNumber(value), b[:1+size]) {
			return value, 1 + size
		}
		for _, x := range []*big.Int{value, new(big.Int).Neg(value)} {
			if signed && x.IsInt64() && bytes.Equal(plainInt(x), b[:1+size]) {
				return x, 1 + size
			}
		}
	}
	return nil, 0
}

func checkNumberAgainstPlain(t *testing.T, b []byte) {
	t.Helper()
	r := New(b)
	n := r.Number(math.MaxUint64)
	if want, size := plainPrefix(b, false); want == nil {
		if n != 0 || !r.Bad() {
			t.Fatalf("Number of %v: %d, Bad %v", b, n, r.Bad())
		}
	} else if n != want.Uint64() || r.Bad() || r.Whole() != (size == len(b)) {
		t.Fatalf("Number of %v: %d, want %v", b, n, want)
	}
}

func checkIntAgainstPlain(t *testing.T, b []byte) {
	t.Helper()
	r := New(b)
	x := r.Int(math.MinInt64, math.MaxInt64)
	if want, size := plainPrefix(b, true); want == nil {
		if x != 0 || !r.Bad() {
			t.Fatalf("Int of %v: %d, Bad %v", b, x, r.Bad())
		}
	} else if x != want.Int64() || r.Bad() || r.Whole() != (size == len(b)) {
		t.Fatalf("Int of %v: %d, want %v", b, x, want)
	}
}

func checkTextAgainstPlain(t *testing.T, b []byte) {
	t.Helper()
	r := New(b)
	text := r.Text(math.MaxInt)
	length, size := plainPrefix(b, false)
	if length == nil || length.Cmp(big.NewInt(int64(len(b)-size))) > 0 {
		if len(text) != 0 || !r.Bad() {
			t.Fatalf("Text of %v: %v, Bad %v", b, text, r.Bad())
		}
		return
	}
	end := size + int(length.Int64())
	if !bytes.Equal(text, b[size:end]) || r.Bad() || r.Whole() != (end == len(b)) {
		t.Fatalf("Text of %v: %v, want %v", b, text, b[size:end])
	}
}

func TestEveryBeginning(t *testing.T) {
	tails := [][]byte{nil, {0}, {1}, {128}, {255}, {0, 0, 0, 0, 0, 0, 0}, {0, 0, 0, 0, 0, 0, 1}, {1, 2, 3, 4, 5, 6, 7, 8}}
	for first := range 256 {
		for second := range 256 {
			for _, tail := range tails {
				b := slices.Concat([]byte{byte(first), byte(second)}, tail)
				checkNumberAgainstPlain(t, b)
				checkIntAgainstPlain(t, b)
				checkTextAgainstPlain(t, b)
			}
		}
		checkNumberAgainstPlain(t, []byte{byte(first)})
		checkIntAgainstPlain(t, []byte{byte(first)})
		checkTextAgainstPlain(t, []byte{byte(first)})
	}
}

// P2.3

func TestWholeOnlyAtTheEnd(t *testing.T) {
	r := New([]byte{0, 0, 0})
	for _, m := range readings() {
		wantState(t, "ahead of "+m.name, r, false, false)
		if !m.zero(r) {
			t.Errorf("%s of 0 is not zero", m.name)
		}
	}
	wantState(t, "at the end", r, false, true)
	wantState(t, "asked again", r, false, true)
	r.Number(5)
	wantStuck(t, "beyond the end", r)
}

func TestErrorAtTheEndIsNotWhole(t *testing.T) {
	for _, m := range readings() {
		r := New(nil)
		if !m.zero(r) {
			t.Errorf("%s of nothing returns a value", m.name)
		}
		wantStuck(t, m.name+" of nothing", r)
	}
}

func TestErrorBehindValues(t *testing.T) {
	r := New([]byte{1, 5, 1, 6, 1, 7})
	if n := r.Number(5); n != 5 {
		t.Errorf("the first is %d", n)
	}
	if n := r.Number(5); n != 0 {
		t.Errorf("the second is %d", n)
	}
	wantStuck(t, "the second is above most", r)
}

// P2.4

// item is one value of any kind, and what it is encoded as.
type item struct {
	kind   int
	number uint64
	int    int64
	text   []byte
}

func (i item) encode() []byte {
	switch i.kind {
	case 0:
		return Number(i.number)
	case 1:
		return Int(i.int)
	}
	return Text(i.text)
}

// decode reads an item of the kind of i, with bounds that just allow i.
func (i item) decode(r *Reader) item {
	switch i.kind {
	case 0:
		return item{kind: 0, number: r.Number(i.number)}
	case 1:
		return item{kind: 1, int: r.Int(i.int, i.int)}
	}
	return item{kind: 2, text: r.Text(len(i.text))}
}

func (i item) same(j item) bool {
	return i.kind == j.kind && i.number == j.number && i.int == j.int && bytes.Equal(i.text, j.text)
}

func someItem(random *rand.Rand) item {
	shift := random.Intn(65)
	switch random.Intn(3) {
	case 0:
		return item{kind: 0, number: random.Uint64() >> shift}
	case 1:
		return item{kind: 1, int: int64(random.Uint64()) >> shift}
	}
	text := make([]byte, random.Intn(600))
	random.Read(text)
	return item{kind: 2, text: text}
}

func TestDecodingInvertsEncoding(t *testing.T) {
	random := rand.New(rand.NewSource(1))
	for range 2000 {
		var items []item
		var b []byte
		for range random.Intn(10) {
			items = append(items, someItem(random))
			b = append(b, items[len(items)-1].encode()...)
		}
		tail := make([]byte, random.Intn(5))
		random.Read(tail)
		r := New(append(b, tail...))
		for _, i := range items {
			if got := i.decode(r); !got.same(i) {
				t.Fatalf("%v was read as %v", i, got)
			}
		}
		wantState(t, "after all items", r, false, len(tail) == 0)
	}
}

func TestWhateverFollows(t *testing.T) {
	for _, i := range []item{{kind: 0}, {kind: 0, number: 258}, {kind: 1}, {kind: 1, int: -258}, {kind: 2}, {kind: 2, text: []byte{7}}} {
		for c := range 256 {
			r := New(append(i.encode(), byte(c)))
			if got := i.decode(r); !got.same(i) {
				t.Errorf("%v, followed by %d, was read as %v", i, c, got)
			}
			wantState(t, "one byte is left", r, false, false)
		}
	}
}

func TestEncodingAgainYieldsTheBytes(t *testing.T) {
	random := rand.New(rand.NewSource(2))
	for range 200000 {
		b := make([]byte, random.Intn(12))
		random.Read(b)
		if len(b) > 0 {
			b[0] %= 28
		}
		r, s, u := New(b), New(b), New(b)
		if code := Number(r.Number(math.MaxUint64)); !r.Bad() && !bytes.HasPrefix(b, code) {
			t.Fatalf("Number of %v: encoded again, %v", b, code)
		}
		if code := Int(s.Int(math.MinInt64, math.MaxInt64)); !s.Bad() && !bytes.HasPrefix(b, code) {
			t.Fatalf("Int of %v: encoded again, %v", b, code)
		}
		if code := Text(u.Text(math.MaxInt)); !u.Bad() && !bytes.HasPrefix(b, code) {
			t.Fatalf("Text of %v: encoded again, %v", b, code)
		}
	}
}

func TestEveryTruncationIsDetected(t *testing.T) {
	random := rand.New(rand.NewSource(3))
	for range 300 {
		i := someItem(random)
		b := i.encode()
		for n := range len(b) {
			r := New(b[:n])
			if got := i.decode(r); got.number != 0 || got.int != 0 || len(got.text) != 0 {
				t.Fatalf("%d of %d bytes of %v were read as %v", n, len(b), i, got)
			}
			wantStuck(t, "truncated", r)
		}
	}
}

func TestErrorStaysRecorded(t *testing.T) {
	for _, first := range readings() {
		// Behind the byte 9 stand encodings of all kinds, which must not be reached any more.
		r := New([]byte{9, 1, 1, 1, 1, 1, 1})
		if !first.zero(r) {
			t.Errorf("%s of 9 returns a value", first.name)
		}
		wantStuck(t, first.name, r)
	}
	// The bytes that were refused for their bounds stay refused when the bounds are wider.
	r := New([]byte{1, 5})
	r.Number(4)
	if n := r.Number(5); n != 0 {
		t.Errorf("Number returns %d behind an error", n)
	}
	wantStuck(t, "wider bounds", r)
}
