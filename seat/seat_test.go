package seat_test

import (
	"math"
	"slices"
	"testing"

	"jetway/api"
	"jetway/seat"
)

// far are numbers that are great or small, or near an end of something.
var far = []int{math.MinInt, math.MinInt + 1, math.MinInt32, -61, -11, -1, 0, 1, 2, 9, 10, 11, 12, 59, 60, 61, 599, 600, 601, math.MaxInt32, 1 << 32, 1<<62 + 5, math.MaxInt - 9, math.MaxInt - 1, math.MaxInt}

func layout(rows int, groups ...int) api.Layout {
	return api.Layout{Rows: rows, Groups: groups}
}

// wrong are layouts that are not valid, each for one reason, and some for several.
func wrong() []api.Layout {
	l := []api.Layout{
		{},
		{Rows: 1},
		{Rows: 1, Groups: []int{}},
		{Groups: []int{3, 3}},
		layout(-1, 3, 3),
		layout(61, 3, 3),
		layout(61, 1),
		layout(math.MinInt, 3),
		layout(math.MaxInt, 3),
		layout(1, 1, 1, 1, 1, 1),
		layout(60, 2, 2, 2, 2, 2),
		layout(1, 1, 1, 1, 1, 0),
		layout(1, 0),
		layout(1, 11),
		layout(1, -1),
		layout(1, 0, 1),
		layout(1, 1, 0),
		layout(1, 3, 0, 3),
		layout(1, 11, -1),
		layout(1, -1, 11),
		layout(1, 5, -2, 5),
		layout(1, 6, 5),
		layout(2, 10, 1),
		layout(2, 1, 10),
		layout(2, 4, 4, 3),
		layout(2, 3, 3, 3, 2),
		layout(2, 10, 10, 10, 10),
		layout(1, math.MinInt),
		layout(1, math.MaxInt),
		layout(1, 3, math.MinInt),
		layout(1, 3, math.MaxInt),
		layout(1, math.MaxInt, 1, math.MaxInt, 4),
		layout(1, math.MaxInt, math.MinInt, 5),
		layout(1, 1<<62, 1<<62, 1<<62, 1<<62),
		layout(1, 1<<63-1, 1<<63-1, 5),
		layout(0, 11),
		layout(61),
	}
	return append(l, api.Layout{Rows: 1, Groups: make([]int, 1000)})
}

// groupings are all lists of groups that a valid layout may have.
func groupings() [][]int {
	var all [][]int
	add := func(l []int, add func(l []int, rest int), rest int) {
		for size := 1; size <= rest; size++ {
			next := append(slices.Clone(l), size)
			all = append(all, next)
			if len(next) < 4 {
				add(next, rest-size)
			}
		}
	}
	var step func(l []int, rest int)
	step = func(l []int, rest int) { add(l, step, rest) }
	step(nil, 10)
	return all
}

// P13.1, Right and Count

func TestGroupings(t *testing.T) {
	// 10 of one group, 45 of two, 120 of three, 210 of four.
	if n := len(groupings()); n != 385 {
		t.Fatal(n)
	}
}

func TestRightAtItsEdges(t *testing.T) {
	for _, c := range []struct {
		l    api.Layout
		many int
	}{
		{layout(2, 3, 3), 12},
		{layout(1, 1), 1},
		{layout(60, 1), 60},
		{layout(1, 10), 10},
		{layout(60, 10), 600},
		{layout(1, 1, 1, 1, 1), 4},
		{layout(60, 1, 1, 1, 1), 240},
		{layout(60, 7, 1, 1, 1), 600},
		{layout(60, 1, 1, 1, 7), 600},
		{layout(59, 3, 4, 3), 590},
		{layout(9, 1, 9), 90},
		{layout(10, 9, 1), 100},
		{layout(30, 2, 3, 4), 270},
	} {
		if !seat.Right(c.l) {
			t.Errorf("%v is valid", c.l)
		}
		if n := seat.Count(c.l); n != c.many {
			t.Errorf("%v: %d seats, want %d", c.l, n, c.many)
		}
	}
	for _, l := range wrong() {
		if seat.Right(l) {
			t.Errorf("%v is not valid", l)
		}
		if n := seat.Count(l); n != 0 {
			t.Errorf("%v: %d seats, want 0", l, n)
		}
	}
}

func TestRightOfAllSizes(t *testing.T) {
	sizes := []int{math.MinInt, -1, 0, 1, 2, 3, 5, 8, 9, 10, 11, math.MaxInt}
	rows := []int{math.MinInt, -1, 0, 1, 2, 60, 61, math.MaxInt}
	right := 0
	var step func(groups []int)
	step = func(groups []int) {
		for _, r := range rows {
			l := api.Layout{Rows: r, Groups: groups}
			p, ok := lay(l)
			if seat.Right(l) != ok || seat.Count(l) != len(p) {
				t.Fatalf("%v: %v and %d seats, want %v and %d", l, seat.Right(l), seat.Count(l), ok, len(p))
			}
			if ok {
				right++
			}
		}
		if len(groups) == 5 {
			return
		}
		for _, size := range sizes {
			if len(groups) < 3 || size <= 3 { // all of four and five would be too many
				step(append(slices.Clone(groups), size))
			}
		}
	}
	step(nil)
	if right < 200 {
		t.Error(right)
	}
}

func TestRightOfAllLayouts(t *testing.T) {
	for _, g := range groupings() {
		for rows := -1; rows <= 62; rows++ {
			l := api.Layout{Rows: rows, Groups: g}
			p, ok := lay(l)
			if seat.Right(l) != ok || seat.Count(l) != len(p) {
				t.Fatalf("%v: %v and %d seats, want %v and %d", l, seat.Right(l), seat.Count(l), ok, len(p))
			}
		}
		if seat.Right(layout(1, append(slices.Clone(g), 10)...)) {
			t.Fatalf("%v and 10 are more than 10 seats", g)
		}
	}
}
