package flight_test

import (
	"bytes"
	"slices"
	"testing"

	"jetway/api"
	"jetway/flight"
)

// P15.4, Encode and Decode of what is right

// again is the flight of a pair's code, next to the same second reading.
func (x *pair) again() *pair {
	x.t.Helper()
	f, e := flight.Decode(x.f.Encode())
	if e != api.OK || f == nil {
		x.t.Fatalf("%v: error %d, a flight: %t", x.f.Encode(), e, f != nil)
	}
	y := &pair{x.t, f, x.p}
	y.same()
	return y
}

func TestEncodeWrittenOut(t *testing.T) {
	x := small(t)
	start := []byte{1, 7, 1, 1, 1, 2, 1, 2, 1, 2, 1, 2, 1, 4, 1, 2}
	codeIs := func(holds ...byte) {
		t.Helper()
		if got, want := x.f.Encode(), slices.Concat(start, holds); !bytes.Equal(got, want) {
			t.Fatalf("%v, want %v", got, want)
		}
		x.again()
	}
	codeIs(0)
	x.take(greatest, 0, 1, api.OK)
	codeIs(1, 1, 4, 1, 180, 216, 159, 0, 1, 1, 0)
	x.take(7, 1, 2, api.OK)
	codeIs(1, 2, 1, 7, 1, 1, 1, 2, 0, 4, 1, 180, 216, 159, 0, 1, 1, 0)
	x.seat(7, "1D", api.OK)
	codeIs(1, 2, 1, 7, 1, 1, 1, 2, 1, 1, 1, 3, 4, 1, 180, 216, 159, 0, 1, 1, 0)
	x.seat(7, "1A", api.OK)
	x.seat(greatest, "1C", api.OK)
	codeIs(1, 2, 1, 7, 1, 1, 1, 2, 1, 2, 0, 1, 3, 4, 1, 180, 216, 159, 0, 1, 1, 1, 1, 1, 2)
	x.give(7, api.OK)
	codeIs(1, 1, 4, 1, 180, 216, 159, 0, 1, 1, 1, 1, 1, 2)
	x.give(greatest, api.OK)
	codeIs(0)

	x = opened(t, 9999, layout(60, 1, 2, 3, 4), 1, 0.5, 0)
	start = []byte{2, 39, 15, 1, 60, 1, 4, 1, 1, 1, 2, 1, 3, 1, 4, 1, 3, 2, 2, 88, 2, 1, 44, 0}
	codeIs(0)
	x.take(256, 1, 300, api.OK)
	x.seat(256, "60K", api.OK)
	codeIs(1, 1, 2, 1, 0, 1, 1, 2, 1, 44, 1, 1, 2, 2, 87)
}

// TestDecodeGoesOn: a decoded flight goes on as the one that was encoded.
func TestDecodeGoesOn(t *testing.T) {
	x := two(t)
	x.take(7, 1, 3, api.OK)
	x.take(9, 0, 2, api.OK)
	x.seat(7, "1B", api.OK)
	x = x.again()
	x.seat(9, "1B", api.ErrFull)
	x.take(9, 0, 1, api.ErrOrder)
	x.take(8, 1, 4, api.ErrFull)
	x.take(8, 1, 3, api.OK)
	x.auto(7, api.ErrOrder)
	x = x.again()
	x.auto(8, api.OK, "1D", "1E", "1F")
	x.seat(7, "2A", api.OK)
	x.seat(7, "1A", api.OK)
	x = x.again()
	x.seat(7, "1C", api.ErrOrder)
	x.unseat(7, "1D", api.ErrNone)
	x.unseat(7, "1B", api.OK)
	x.give(8, api.OK)
	x = x.again()
	x.give(8, api.ErrNone)
	x.auto(9, api.OK, "1B", "1C")
	x.has(7, "1A", "2A")
	x.left(7, 3)
}

// TestSameMeaningSameBytes: two flights that came to the same by other ways.
func TestSameMeaningSameBytes(t *testing.T) {
	a, b := two(t), two(t)
	for _, owner := range []int{5, 300, 7} {
		a.take(owner, owner%2, 2, api.OK)
	}
	a.auto(5, api.OK, "1A", "1B")
	a.seat(300, "2F", api.OK)
	a.seat(300, "2E", api.OK)
	a.seat(7, "1C", api.OK)

	b.take(6, 1, 6, api.OK)
	b.auto(6, api.OK, "1A", "1B", "1C", "1D", "1E", "1F")
	b.give(6, api.OK)
	for _, owner := range []int{7, 300, 5} {
		b.take(owner, owner%2, 2, api.OK)
	}
	b.take(7, 0, 1, api.ErrOrder)
	b.seat(300, "2A", api.OK)
	b.seat(300, "2E", api.OK)
	b.unseat(300, "2A", api.OK)
	b.seat(300, "2F", api.OK)
	b.seat(7, "1C", api.OK)
	b = b.again()
	b.seat(5, "1B", api.OK)
	b.seat(5, "1A", api.OK)

	for range 5 {
		if got, want := b.f.Encode(), a.f.Encode(); !bytes.Equal(got, want) {
			t.Fatalf("%v, want %v", got, want)
		}
	}
}

// TestSameLimitsSameBytes: parts are not told, limits are.
func TestSameLimitsSameBytes(t *testing.T) {
	want := opened(t, 1, layout(1, 2, 2), 1, 0.5, 0).f.Encode()
	for _, parts := range [][]float64{{0, 0.5, -1}, {2, 0.7, 0.2}, {0.1, 0.6, 0.24}} {
		if got := opened(t, 1, layout(1, 2, 2), parts...).f.Encode(); !bytes.Equal(got, want) {
			t.Errorf("parts %v: %v, want %v", parts, got, want)
		}
	}
}

// TestDecodeAllLimits: limits need not be of parts that anybody has named.
func TestDecodeAllLimits(t *testing.T) {
	right := 0
	for a := range 7 {
		for b := range 7 {
			for c := range 7 {
				for classes := range 4 {
					if x := decoded(t, code{1, 1, []int{2, 3}, []int{a, b, c}[:classes], nil}); x != nil {
						right++
					}
				}
			}
		}
	}
	// 1 of one class, 6 of two, and 21 of three, as often as there are numbers that were left out.
	if right != 49+6*7+21 {
		t.Error(right)
	}
}

// decoded is the pair of a code, or nil if both readings say that it is none.
func decoded(t *testing.T, c code) *pair {
	t.Helper()
	return decodedBytes(t, c.bytes())
}

func decodedBytes(t *testing.T, b string) *pair {
	t.Helper()
	f, e := flight.Decode([]byte(b))
	p, right := plainDecode(b)
	switch {
	case !right && (f != nil || e != api.ErrForm):
		t.Fatalf("%v, which is no code: error %d, a flight: %t", []byte(b), e, f != nil)
	case !right:
		return nil
	case f == nil || e != api.OK:
		t.Fatalf("%v, which is %v: error %d, a flight: %t", []byte(b), p.code(), e, f != nil)
	}
	x := &pair{t, f, p}
	x.same()
	return x
}
