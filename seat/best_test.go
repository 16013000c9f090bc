package seat_test

import (
	"math"
	"math/rand"
	"slices"
	"testing"

	"jetway/api"
	"jetway/seat"
)

// P13.3, Best

func bestIs(t *testing.T, l api.Layout, taken []int, many int, want []int, e api.Errno) {
	t.Helper()
	if b, got := seat.Best(l, taken, many); !slices.Equal(b, want) || got != e {
		t.Fatalf("%v, %v taken, %d seats: %v and %d, want %v and %d", l, taken, many, b, got, want, e)
	}
}

// upTo are the numbers from 0 on, so many.
func upTo(many int) []int {
	return span(0, many)
}

// span are the numbers from one on, and below another one.
func span(from, below int) []int {
	var l []int
	for n := from; n < below; n++ {
		l = append(l, n)
	}
	return l
}

// but are all seats of a layout but some.
func but(l api.Layout, free ...int) []int {
	return slices.DeleteFunc(upTo(seat.Count(l)), func(n int) bool { return slices.Contains(free, n) })
}

func TestBestScenes(t *testing.T) {
	two := layout(2, 3, 3)
	for _, c := range []struct {
		what  string
		l     api.Layout
		taken []int
		many  int
		want  []int
	}{
		{"the chapter's first", two, []int{0, 1, 2, 4}, 2, []int{6, 7}},
		{"the chapter's second", two, []int{1}, 2, []int{3, 4}},
		{"all are free", two, nil, 1, []int{0}},
		{"all are free", two, []int{}, 3, []int{0, 1, 2}},
		{"no group has four", two, nil, 4, []int{0, 1, 2, 3}},
		{"all seats", two, nil, 12, upTo(12)},
		{"the one seat", layout(1, 1), nil, 1, []int{0}},
		{"the first is taken", two, []int{0}, 1, []int{1}},
		{"the first is taken", two, []int{0}, 2, []int{1, 2}},
		{"the first is taken", two, []int{0}, 3, []int{3, 4, 5}},
		{"the first group with so many, not the emptiest", two, []int{0}, 2, []int{1, 2}},
		{"the first group, not the one that just fits", two, []int{4}, 1, []int{0}},
		{"two apart in a group are not beside one another", two, []int{1, 4, 7, 10}, 2, []int{0, 2}},
		{"two apart in a group, and two beside one another in the last", two, []int{1, 4, 7, 9}, 2, []int{10, 11}},
		{"the aisle is between them", two, []int{0, 1, 4, 5}, 2, []int{6, 7}},
		{"the aisle is between them, wherever", two, but(two, 2, 3, 8, 9), 2, []int{2, 3}},
		{"the row ends between them", two, but(two, 5, 6), 2, []int{5, 6}},
		{"the row ends between them, and a group behind has two", two, but(two, 5, 6, 10, 11), 2, []int{10, 11}},
		{"a group's end, and it goes on behind the aisle", two, but(two, 1, 2, 3, 6, 7, 8), 3, []int{6, 7, 8}},
		{"a group's end, and it goes on in the next row", layout(3, 4), but(layout(3, 4), 2, 3, 4, 5, 8, 9, 10), 3, []int{8, 9, 10}},
		{"a run at the end of a group", two, but(two, 0, 4, 5), 2, []int{4, 5}},
		{"the last seats of the cabin", two, but(two, 0, 2, 10, 11), 2, []int{10, 11}},
		{"the last seat of the cabin", two, upTo(11), 1, []int{11}},
		{"just as many as asked for, beside one another", two, but(two, 9, 10, 11), 3, []int{9, 10, 11}},
		{"just as many as asked for, strewn", two, but(two, 0, 5, 6, 8), 4, []int{0, 5, 6, 8}},
		{"more than asked for, strewn", two, but(two, 0, 2, 5, 6, 8, 11), 4, []int{0, 2, 5, 6}},
		{"the leftmost of a long run", layout(1, 10), []int{0, 4}, 5, []int{5, 6, 7, 8, 9}},
		{"the leftmost of a long run", layout(1, 10), []int{0, 4}, 4, []int{5, 6, 7, 8}},
		{"the leftmost of several runs of a group", layout(1, 10), []int{0, 4}, 3, []int{1, 2, 3}},
		{"a longer run further to the right", layout(1, 10), []int{2, 6}, 3, []int{3, 4, 5}},
		{"a whole group of ten", layout(60, 10), append(span(0, 501), 515, 529), 10, span(530, 540)},
		{"more than a group of ten", layout(60, 10), nil, 11, upTo(11)},
		{"groups of one", layout(9, 1, 1, 1, 1), []int{0, 2}, 2, []int{1, 3}},
		{"a row of one seat", layout(60, 1), []int{0, 1}, 3, []int{2, 3, 4}},
		{"the greatest group is the last", layout(3, 1, 2, 3, 4), nil, 4, []int{6, 7, 8, 9}},
		{"the greatest group is the last, of the second row", layout(3, 1, 2, 3, 4), []int{7}, 4, []int{16, 17, 18, 19}},
		{"no group is great enough", layout(3, 1, 2, 3, 4), []int{7}, 5, []int{0, 1, 2, 3, 4}},
		{"in no order", two, []int{4, 2, 0, 1}, 2, []int{6, 7}},
		{"twice", two, []int{1, 1, 1}, 2, []int{3, 4}},
		{"twice, apart", two, []int{0, 1, 2, 4, 0, 4, 2}, 2, []int{6, 7}},
		{"seats that are not there", two, []int{-1, 12, 13, 1, -12}, 2, []int{3, 4}},
		{"none but such", two, []int{-1, 12}, 12, upTo(12)},
		{"none but such, far away", two, noSeats(12), 12, upTo(12)},
		{"as many as there are, and none is there", layout(1, 2), []int{2, 3, 4, -1}, 2, []int{0, 1}},
	} {
		t.Run(c.what, func(t *testing.T) {
			bestIs(t, c.l, c.taken, c.many, c.want, api.OK)
		})
	}
}

// noSeats are the numbers of far that are no seats, of so many.
func noSeats(many int) []int {
	return slices.DeleteFunc(slices.Clone(far), func(n int) bool { return n >= 0 && n < many })
}

func TestBestArgs(t *testing.T) {
	for _, l := range []api.Layout{layout(1, 1), layout(2, 3, 3), layout(60, 10), layout(60, 1)} {
		all := seat.Count(l)
		for _, many := range append(noSeats(all), all+1) {
			if many > 0 && many <= all {
				continue
			}
			bestIs(t, l, nil, many, nil, api.ErrArg)
			// It is named ahead of ErrFull.
			bestIs(t, l, upTo(all), many, nil, api.ErrArg)
			bestIs(t, l, but(l, 0), many, nil, api.ErrArg)
		}
		bestIs(t, l, nil, 0, nil, api.ErrArg)
		bestIs(t, l, nil, 1, []int{0}, api.OK)
		bestIs(t, l, nil, all, upTo(all), api.OK)
	}
	for _, l := range wrong() {
		for _, many := range append(far, 3) {
			bestIs(t, l, nil, many, nil, api.ErrArg)
			bestIs(t, l, upTo(600), many, nil, api.ErrArg)
		}
	}
}

func TestBestFull(t *testing.T) {
	two := layout(2, 3, 3)
	bestIs(t, two, upTo(12), 1, nil, api.ErrFull)
	bestIs(t, two, upTo(12), 12, nil, api.ErrFull)
	bestIs(t, two, upTo(11), 2, nil, api.ErrFull)
	bestIs(t, two, []int{3}, 12, nil, api.ErrFull)
	bestIs(t, two, []int{3, 3, 3}, 11, []int{0, 1, 2, 4, 5, 6, 7, 8, 9, 10, 11}, api.OK)
	bestIs(t, two, []int{3, 3, 3, 12, -1}, 11, []int{0, 1, 2, 4, 5, 6, 7, 8, 9, 10, 11}, api.OK)
	bestIs(t, two, but(two, 0, 1, 2), 4, nil, api.ErrFull)
	bestIs(t, two, but(two, 0, 1, 2), 3, []int{0, 1, 2}, api.OK)
	bestIs(t, layout(1, 1), []int{0}, 1, nil, api.ErrFull)
	bestIs(t, layout(60, 10), upTo(600), 1, nil, api.ErrFull)
	bestIs(t, layout(60, 10), upTo(599), 1, []int{599}, api.OK)
	bestIs(t, layout(60, 10), []int{599}, 600, nil, api.ErrFull)
	bestIs(t, layout(60, 10), []int{599}, 599, upTo(599), api.OK)
}

// TestBestOfAllSmallCabins: all taken seats of all cabins of up to eight.
func TestBestOfAllSmallCabins(t *testing.T) {
	for _, g := range groupings() {
		for rows := 1; rows <= 8; rows++ {
			l := api.Layout{Rows: rows, Groups: g}
			p, _ := lay(l)
			for set := 0; len(p) <= 8 && set < 1<<len(p); set++ {
				taken := slices.DeleteFunc(upTo(len(p)), func(n int) bool { return set>>n&1 == 0 })
				for many := 0; many <= len(p)+1; many++ {
					want, e := p.best(taken, many)
					bestIs(t, l, taken, many, want, e)
				}
			}
		}
	}
}

// drawTaken are some seats of so many, in any order, some of them twice, and some that are not there.
func drawTaken(r *rand.Rand, many int) []int {
	var l []int
	share := r.Float64()
	for n := range many {
		if r.Float64() < share {
			l = append(l, n)
		}
	}
	for len(l) > 0 && r.Intn(4) > 0 {
		l = append(l, l[r.Intn(len(l))])
	}
	for r.Intn(3) > 0 {
		l = append(l, []int{-1 - r.Intn(many), many + r.Intn(20), math.MinInt, math.MaxInt}[r.Intn(4)])
	}
	r.Shuffle(len(l), func(i, j int) { l[i], l[j] = l[j], l[i] })
	return l
}

func drawLayout(r *rand.Rand, all [][]int) api.Layout {
	return api.Layout{Rows: []int{1 + r.Intn(3), 1 + r.Intn(60), 60}[r.Intn(3)], Groups: all[r.Intn(len(all))]}
}

// TestBestDrawn: of drawn cabins, at each number of seats that a group may have, and around the number of those that are free.
func TestBestDrawn(t *testing.T) {
	r := rand.New(rand.NewSource(1))
	all := groupings()
	beside, strewn, full, arg := 0, 0, 0, 0
	for range 3000 {
		l := drawLayout(r, all)
		p, _ := lay(l)
		taken := drawTaken(r, len(p))
		left := len(but(l, taken...))
		free := len(p) - left
		for _, many := range append(upTo(12), free-1, free, free+1, left-1, left, left+1, len(p), len(p)+1, 1+r.Intn(len(p))) {
			want, e := p.best(taken, many)
			bestIs(t, l, taken, many, want, e)
			switch {
			case e == api.ErrArg:
				arg++
			case e == api.ErrFull:
				full++
			case many > 1 && want[many-1]-want[0] == many-1 && p[want[0]].group == p[want[many-1]].group:
				beside++
			case many > 1:
				strewn++
			}
		}
	}
	if min(beside, strewn, full, arg) < 2000 {
		t.Error(beside, strewn, full, arg)
	}
}
