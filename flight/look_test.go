package flight_test

import (
	"slices"
	"testing"

	"jetway/api"
)

// P15.1, Number, Sold, Left, Holds, Labels: what they must tell is written out here.

func TestLook(t *testing.T) {
	x := opened(t, 9999, layout(12, 2, 2), 1, 0.5, 0.25)
	x.left(48, 24, 12)
	x.take(greatest, 2, 5, api.OK)
	x.take(300, 0, 3, api.OK)
	x.take(1, 1, 4, api.OK)
	x.take(20, 1, 1, api.OK)
	for _, label := range []string{"12D", "10A", "9B", "9A"} {
		x.seat(greatest, label, api.OK)
	}
	for _, label := range []string{"2A", "1D", "10B", "1A"} {
		x.seat(1, label, api.OK)
	}
	x.seat(20, "1B", api.OK)
	holds := []api.Hold{
		{Owner: 1, Class: 1, Many: 4, Seats: []int{0, 3, 4, 37}},
		{Owner: 20, Class: 1, Many: 1, Seats: []int{1}},
		{Owner: 300, Class: 0, Many: 3},
		{Owner: greatest, Class: 2, Many: 5, Seats: []int{32, 33, 36, 47}},
	}
	if got := x.f.Holds(); !slices.EqualFunc(got, holds, sameHold) {
		t.Errorf("%v, want %v", got, holds)
	}
	if got := x.f.Sold(); !slices.Equal(got, []int{3, 5, 5}) || x.f.Number() != 9999 {
		t.Errorf("flight %d, sales %v", x.f.Number(), got)
	}
	x.left(35, 14, 7)
	x.has(1, "1A", "1D", "2A", "10B")
	x.has(20, "1B")
	x.has(300)
	x.has(greatest, "9A", "9B", "10A", "12D")
	for _, owner := range append(far, 0, 2, 19, 21, greatest-1) {
		x.has(owner)
	}
}

// TestLookAgain: looking changes nothing.
func TestLookAgain(t *testing.T) {
	x := small(t)
	x.take(9, 1, 2, api.OK)
	x.seat(9, "1C", api.OK)
	for range 3 {
		x.left(2, 0)
		x.has(9, "1C")
		x.same()
	}
}

func TestLeftAndSold(t *testing.T) {
	x := opened(t, 1, layout(1, 5, 5), 1, 0.6, 0.3)
	for i, c := range []struct {
		class, many int
		left, sold  []int
	}{
		{2, 1, []int{9, 5, 2}, []int{0, 0, 1}},
		{1, 3, []int{6, 2, 2}, []int{0, 3, 1}},
		{0, 5, []int{1, 1, 1}, []int{5, 3, 1}},
		{1, 1, []int{0, 0, 0}, []int{5, 4, 1}},
	} {
		x.take(9-i, c.class, c.many, api.OK)
		x.left(c.left...)
		if got := x.f.Sold(); !slices.Equal(got, c.sold) {
			t.Errorf("sales %v, want %v", got, c.sold)
		}
	}
}
