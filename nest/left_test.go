package nest_test

import (
	"math/rand"
	"testing"

	"jetway/api"
	"jetway/nest"
)

// P14.2, Left

func leftIs(t *testing.T, limits, sold []int, class, want int, e api.Errno) {
	t.Helper()
	if n, got := nest.Left(limits, sold, class); n != want || got != e {
		t.Fatalf("limits %v, sales %v, left of class %d: %d and %d, want %d and %d", limits, sold, class, n, got, want, e)
	}
}

func TestLeftScenes(t *testing.T) {
	for _, c := range []struct {
		what         string
		limits, sold []int
		left         []int
	}{
		{"the chapter's", []int{10, 6, 3}, []int{2, 1, 3}, []int{4, 2, 0}},
		{"nothing is sold", []int{10, 6, 3}, []int{0, 0, 0}, []int{10, 6, 3}},
		{"one class", []int{7}, []int{3}, []int{4}},
		{"one class, nothing sold", []int{7}, []int{0}, []int{7}},
		{"one class, all sold", []int{7}, []int{7}, []int{0}},
		{"one class of the greatest limit", []int{10000}, []int{0}, []int{10000}},
		{"one class of the greatest limit, all sold", []int{10000}, []int{10000}, []int{0}},
		{"one class of the greatest limit, one left", []int{10000}, []int{9999}, []int{1}},
		{"no limit", []int{0}, []int{0}, []int{0}},
		{"sold in the highest class", []int{10, 6, 3}, []int{5, 0, 0}, []int{5, 5, 3}},
		{"sold in the middle class", []int{10, 6, 3}, []int{0, 4, 0}, []int{6, 2, 2}},
		{"sold in the lowest class", []int{10, 6, 3}, []int{0, 0, 2}, []int{8, 4, 1}},
		{"its own limit leaves room, and the highest one's does not", []int{10, 6, 3}, []int{10, 0, 0}, []int{0, 0, 0}},
		{"its own limit leaves room, and the highest one's less", []int{10, 6, 3}, []int{8, 1, 0}, []int{1, 1, 1}},
		{"its own limit leaves room, and the middle one's does not", []int{10, 6, 3}, []int{0, 6, 0}, []int{4, 0, 0}},
		{"its own limit leaves room, and the middle one's less", []int{10, 6, 3}, []int{0, 5, 0}, []int{5, 1, 1}},
		{"the lowest one is sold, and the higher ones are not", []int{10, 6, 3}, []int{0, 0, 3}, []int{7, 3, 0}},
		{"equal limits", []int{6, 6, 6}, []int{1, 2, 0}, []int{3, 3, 3}},
		{"equal limits, sold in the lowest", []int{6, 6, 6}, []int{0, 0, 4}, []int{2, 2, 2}},
		{"every total is its limit", []int{10, 6, 3}, []int{4, 3, 3}, []int{0, 0, 0}},
		{"eight classes", []int{8, 7, 6, 5, 4, 3, 2, 1}, []int{1, 0, 1, 0, 1, 0, 1, 0}, []int{4, 4, 3, 3, 2, 2, 1, 1}},
		{"eight classes, all of the last", []int{8, 7, 6, 5, 4, 3, 2, 1}, []int{0, 0, 0, 0, 0, 0, 0, 1}, []int{7, 6, 5, 4, 3, 2, 1, 0}},
		{"eight classes, all of the greatest limit", same(10000, 8), same(1, 8), same(9992, 8)},
		{"eight classes, totals above 10000 of those ahead of limits", same(10000, 8), []int{0, 0, 0, 0, 0, 0, 0, 10000}, same(0, 8)},
		{"the last limits are 0", []int{9, 4, 0, 0}, []int{1, 1, 0, 0}, []int{7, 3, 0, 0}},
	} {
		t.Run(c.what, func(t *testing.T) {
			for class, want := range c.left {
				leftIs(t, c.limits, c.sold, class, want, api.OK)
			}
			leftIs(t, c.limits, c.sold, -1, 0, api.ErrArg)
			leftIs(t, c.limits, c.sold, len(c.left), 0, api.ErrArg)
		})
	}
}

func TestLeftArgs(t *testing.T) {
	for _, c := range wrong {
		for _, class := range far {
			leftIs(t, c[0], c[1], class, 0, api.ErrArg)
		}
	}
	for _, class := range far {
		want, e := plainLeft([]int{10, 6, 3}, []int{2, 1, 3}, class)
		leftIs(t, []int{10, 6, 3}, []int{2, 1, 3}, class, want, e)
		want, e = plainLeft([]int{5}, []int{1}, class)
		leftIs(t, []int{5}, []int{1}, class, want, e)
		want, e = plainLeft(same(10000, 8), same(1250, 8), class)
		leftIs(t, same(10000, 8), same(1250, 8), class, want, e)
		leftIs(t, nil, nil, class, 0, api.ErrArg)
	}
}

// TestLeftOfAllSmall: all limits and sales of up to three small numbers.
func TestLeftOfAllSmall(t *testing.T) {
	for classes := range 4 {
		for _, limits := range lists(classes, -1, 0, 1, 2, 3, 5) {
			for _, sold := range lists(classes, -1, 0, 1, 2, 3) {
				for class := -1; class <= classes; class++ {
					want, e := plainLeft(limits, sold, class)
					leftIs(t, limits, sold, class, want, e)
				}
			}
		}
	}
}

func TestLeftDrawn(t *testing.T) {
	r := rand.New(rand.NewSource(4))
	own, higher := 0, 0
	for range 20000 {
		limits := drawLimits(r)
		sold := drawSold(r, limits)
		for class := -1; class <= len(limits); class++ {
			want, e := plainLeft(limits, sold, class)
			leftIs(t, limits, sold, class, want, e)
			switch {
			case e != api.OK || want == 0:
			case room(limits, sold, class).Int64() == int64(want):
				own++
			default:
				higher++
			}
		}
	}
	if min(own, higher) < 3000 {
		t.Error(own, higher)
	}
}
