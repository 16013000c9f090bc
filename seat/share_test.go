package seat_test

import (
	"math"
	"slices"
	"testing"

	"jetway/api"
	"jetway/seat"
)

// R3 and R4: nothing is changed, kept or shared.

// roomy is a list with other numbers behind its end.
func roomy(l ...int) []int {
	return append(slices.Clone(l), 77, 77, 77, 77, 77, 77, 77, 77)[:len(l)]
}

// callAll calls everything.
func callAll(l api.Layout, taken []int) {
	seat.Right(l)
	seat.Count(l)
	for _, n := range []int{-1, 0, 1, 7, 8, 1000} {
		seat.Label(l, n)
		seat.Beside(l, n)
		seat.Best(l, taken, n)
	}
	for _, s := range []string{"", "1A", "2C", "9Z"} {
		seat.Find(l, s)
	}
}

func TestArgumentsAreNotChanged(t *testing.T) {
	for _, groups := range [][]int{roomy(3, 3), roomy(1, 2, 3, 4), roomy(10), roomy(11, 1), roomy(-1), roomy(1, 1, 1, 1, 1)} {
		for _, taken := range [][]int{roomy(4, 0, 2, 1), roomy(), roomy(5, 5, -1, 99, math.MaxInt, 3)} {
			wantGroups, wantTaken := slices.Clone(groups[:cap(groups)]), slices.Clone(taken[:cap(taken)])
			callAll(api.Layout{Rows: 2, Groups: groups}, taken)
			if !slices.Equal(groups[:cap(groups)], wantGroups) || !slices.Equal(taken[:cap(taken)], wantTaken) {
				t.Errorf("%v and %v, were %v and %v", groups[:cap(groups)], taken[:cap(taken)], wantGroups, wantTaken)
			}
		}
	}
}

func TestResultsBelongToTheCaller(t *testing.T) {
	l, taken := layout(2, 3, 3), []int{0, 1, 2, 4}
	for range 2 {
		b, c := seat.Best(l, taken, 2)
		d := seat.Beside(l, 7)
		if !slices.Equal(b, []int{6, 7}) || c != api.OK || !slices.Equal(d, []int{6, 8}) {
			t.Fatal(b, c, d)
		}
		for _, r := range [][]int{b, d} {
			r = r[:cap(r)]
			for i := range r {
				r[i] = 99
			}
		}
	}
	if !slices.Equal(taken, []int{0, 1, 2, 4}) || !slices.Equal(l.Groups, []int{3, 3}) {
		t.Error(taken, l)
	}
}

func TestNothingIsKept(t *testing.T) {
	l, taken := layout(2, 3, 3), []int{1}
	b, _ := seat.Best(l, taken, 2)
	d := seat.Beside(l, 7)
	l.Groups[0], taken[0] = 1, 3
	if !slices.Equal(b, []int{3, 4}) || !slices.Equal(d, []int{6, 8}) {
		t.Error(b, d)
	}
	// The layout is another one now, of 1 and 3 seats.
	if seat.Count(l) != 8 {
		t.Error(seat.Count(l))
	}
	labelIs(t, l, 7, "2D", api.OK)
	bestIs(t, l, taken, 3, []int{5, 6, 7}, api.OK)
}
