package nest_test

import (
	"math"
	"math/rand"
	"slices"
	"testing"

	"jetway/api"
	"jetway/nest"
)

// P14.3, Sell and Back

type change func(limits, sold []int, class, many int) ([]int, api.Errno)

func changeIs(t *testing.T, what string, f change, limits, sold []int, class, many int, want []int, e api.Errno) {
	t.Helper()
	if l, got := f(limits, sold, class, many); !slices.Equal(l, want) || got != e {
		t.Fatalf("limits %v, sales %v, %s %d of class %d: %v and %d, want %v and %d", limits, sold, what, many, class, l, got, want, e)
	}
}

func sellIs(t *testing.T, limits, sold []int, class, many int, want []int, e api.Errno) {
	t.Helper()
	changeIs(t, "sell", nest.Sell, limits, sold, class, many, want, e)
}

func backIs(t *testing.T, limits, sold []int, class, many int, want []int, e api.Errno) {
	t.Helper()
	changeIs(t, "give back", nest.Back, limits, sold, class, many, want, e)
}

func TestSellScenes(t *testing.T) {
	limits, sold := []int{10, 6, 3}, []int{2, 1, 3}
	for _, c := range []struct {
		what         string
		limits, sold []int
		class, many  int
		want         []int
		e            api.Errno
	}{
		{"the chapter's first", limits, sold, 1, 2, []int{2, 3, 3}, api.OK},
		{"the chapter's second", limits, sold, 1, 3, nil, api.ErrFull},
		{"fewer than are left", limits, sold, 1, 1, []int{2, 2, 3}, api.OK},
		{"fewer than are left of the highest class", limits, sold, 0, 3, []int{5, 1, 3}, api.OK},
		{"just as many as are left of the highest class", limits, sold, 0, 4, []int{6, 1, 3}, api.OK},
		{"one more", limits, sold, 0, 5, nil, api.ErrFull},
		{"none are left", limits, sold, 2, 1, nil, api.ErrFull},
		{"just as many as are left of the lowest class", limits, []int{2, 1, 1}, 2, 2, sold, api.OK},
		{"one more", limits, []int{2, 1, 1}, 2, 3, nil, api.ErrFull},
		{"no such class", limits, sold, -1, 1, nil, api.ErrArg},
		{"no such class", limits, sold, 3, 1, nil, api.ErrArg},
		{"no seats", limits, sold, 1, 0, nil, api.ErrArg},
		{"no seats, of a class of which none are left", limits, sold, 2, 0, nil, api.ErrArg},
		{"fewer than none", limits, sold, 1, -1, nil, api.ErrArg},
		{"fewer than none, of a class that could give them back", limits, sold, 2, -1, nil, api.ErrArg},
		{"10000", limits, sold, 1, 10000, nil, api.ErrFull},
		{"10001, which is wrong ahead of being too many", limits, sold, 1, 10001, nil, api.ErrArg},
		{"10001, of a class of which none are left", limits, sold, 2, 10001, nil, api.ErrArg},
		{"its own limit leaves room, and the highest one's does not", limits, []int{10, 0, 0}, 2, 1, nil, api.ErrFull},
		{"its own limit leaves room, and the highest one's just so many", limits, []int{8, 0, 0}, 2, 2, []int{8, 0, 2}, api.OK},
		{"its own limit leaves room, and the highest one's one fewer", limits, []int{8, 0, 0}, 2, 3, nil, api.ErrFull},
		{"its own limit leaves room, and the middle one's does not", limits, []int{0, 6, 0}, 2, 1, nil, api.ErrFull},
		{"its own limit leaves room, and the middle one's just so many", limits, []int{0, 4, 0}, 2, 2, []int{0, 4, 2}, api.OK},
		{"all of 10000", []int{10000}, []int{0}, 0, 10000, []int{10000}, api.OK},
		{"all but one of 10000", []int{10000}, []int{0}, 0, 9999, []int{9999}, api.OK},
		{"the last one of 10000", []int{10000}, []int{9999}, 0, 1, []int{10000}, api.OK},
		{"one more than 10000", []int{10000}, []int{10000}, 0, 1, nil, api.ErrFull},
		{"10000 of the last of eight classes", same(10000, 8), same(0, 8), 7, 10000, []int{0, 0, 0, 0, 0, 0, 0, 10000}, api.OK},
		{"10000, and one is sold", same(10000, 8), []int{1, 0, 0, 0, 0, 0, 0, 0}, 7, 10000, nil, api.ErrFull},
		{"of a limit of 0", []int{0}, []int{0}, 0, 1, nil, api.ErrFull},
		{"sales above the limits, and one that asks for nothing", limits, []int{5, 3, 3}, 0, 0, nil, api.ErrArg},
		{"sales above the limits", limits, []int{5, 3, 3}, 0, 1, nil, api.ErrArg},
		{"sales above the limits, which is wrong ahead of being too many", limits, []int{0, 0, 4}, 2, 10000, nil, api.ErrArg},
		{"rising limits", []int{3, 6}, []int{0, 0}, 0, 1, nil, api.ErrArg},
	} {
		t.Run(c.what, func(t *testing.T) {
			sellIs(t, c.limits, c.sold, c.class, c.many, c.want, c.e)
		})
	}
}

func TestBackScenes(t *testing.T) {
	limits, sold := []int{10, 6, 3}, []int{2, 1, 3}
	for _, c := range []struct {
		what         string
		limits, sold []int
		class, many  int
		want         []int
		e            api.Errno
	}{
		{"the chapter's", limits, sold, 2, 3, []int{2, 1, 0}, api.OK},
		{"one of several", limits, sold, 2, 1, []int{2, 1, 2}, api.OK},
		{"one of several", limits, sold, 0, 1, []int{1, 1, 3}, api.OK},
		{"just as many as were sold", limits, sold, 0, 2, []int{0, 1, 3}, api.OK},
		{"just as many as were sold", limits, sold, 1, 1, []int{2, 0, 3}, api.OK},
		{"one more", limits, sold, 0, 3, nil, api.ErrArg},
		{"one more", limits, sold, 1, 2, nil, api.ErrArg},
		{"one more", limits, sold, 2, 4, nil, api.ErrArg},
		{"none were sold", limits, []int{2, 0, 3}, 1, 1, nil, api.ErrArg},
		{"no seats", limits, sold, 2, 0, nil, api.ErrArg},
		{"no seats, and none were sold", limits, []int{2, 0, 3}, 1, 0, nil, api.ErrArg},
		{"fewer than none", limits, sold, 1, -1, nil, api.ErrArg},
		{"no such class", limits, sold, -1, 1, nil, api.ErrArg},
		{"no such class", limits, sold, 3, 1, nil, api.ErrArg},
		{"10000", limits, sold, 1, 10000, nil, api.ErrArg},
		{"10001", limits, sold, 1, 10001, nil, api.ErrArg},
		{"all of 10000", []int{10000}, []int{10000}, 0, 10000, []int{0}, api.OK},
		{"all but one of 10000", []int{10000}, []int{10000}, 0, 9999, []int{1}, api.OK},
		{"one of 10000", []int{10000}, []int{10000}, 0, 1, []int{9999}, api.OK},
		{"one more than 10000", []int{10000}, []int{10000}, 0, 10001, nil, api.ErrArg},
		{"one more than 9999", []int{10000}, []int{9999}, 0, 10000, nil, api.ErrArg},
		{"10000 of the last of eight classes", same(10000, 8), []int{0, 0, 0, 0, 0, 0, 0, 10000}, 7, 10000, same(0, 8), api.OK},
		{"so many are left, but were not sold", limits, []int{0, 0, 0}, 0, 1, nil, api.ErrArg},
		{"of classes with nothing left", limits, []int{4, 3, 3}, 1, 3, []int{4, 0, 3}, api.OK},
		{"sales above the limits, which giving back would mend", limits, []int{0, 0, 4}, 2, 1, nil, api.ErrArg},
		{"rising limits", []int{3, 6}, []int{1, 1}, 0, 1, nil, api.ErrArg},
		{"10001, as many as sales that may not be", []int{10000}, []int{10001}, 0, 10001, nil, api.ErrArg},
	} {
		t.Run(c.what, func(t *testing.T) {
			backIs(t, c.limits, c.sold, c.class, c.many, c.want, c.e)
		})
	}
}

func TestSellAndBackArgs(t *testing.T) {
	for _, c := range wrong {
		for _, class := range far {
			for _, many := range far {
				sellIs(t, c[0], c[1], class, many, nil, api.ErrArg)
				backIs(t, c[0], c[1], class, many, nil, api.ErrArg)
			}
		}
	}
	for _, c := range [][2][]int{
		{{10, 6, 3}, {2, 1, 3}},
		{{5}, {1}},
		{{10000}, {0}},
		{{10000}, {10000}},
		{same(10000, 8), same(1000, 8)},
		{same(10000, 8), same(1250, 8)},
		{same(0, 8), same(0, 8)},
	} {
		for _, class := range far {
			for _, many := range far {
				bothAre(t, c[0], c[1], class, many)
			}
		}
	}
	sellIs(t, nil, nil, 0, 1, nil, api.ErrArg)
	backIs(t, nil, nil, 0, 1, nil, api.ErrArg)
}

// bothAre holds Sell and Back against the second reading, and returns the errors.
func bothAre(t *testing.T, limits, sold []int, class, many int) (sell, back api.Errno) {
	t.Helper()
	want, sell := plainSell(limits, sold, class, many)
	sellIs(t, limits, sold, class, many, want, sell)
	want, back = plainBack(limits, sold, class, many)
	backIs(t, limits, sold, class, many, want, back)
	return sell, back
}

// TestSellAndBackOfAllSmall: all limits and sales of up to three small numbers.
func TestSellAndBackOfAllSmall(t *testing.T) {
	for classes := range 4 {
		for _, limits := range lists(classes, 0, 1, 2, 3, 5) {
			for _, sold := range lists(classes, -1, 0, 1, 2, 3) {
				for class := -1; class <= classes; class++ {
					for many := -1; many <= 6; many++ {
						bothAre(t, limits, sold, class, many)
					}
				}
			}
		}
	}
}

// TestSellAndBackDrawn: around as many as are left, and as were sold.
func TestSellAndBackDrawn(t *testing.T) {
	r := rand.New(rand.NewSource(5))
	counts := make(map[[2]api.Errno]int)
	for range 5000 {
		limits := drawLimits(r)
		sold := drawSold(r, limits)
		for class, n := range sold {
			left, _ := plainLeft(limits, sold, class)
			for _, many := range []int{-n, -left, -1, 0, 1, n - 1, n, n + 1, left - 1, left, left + 1, r.Intn(10001), 10000, 10001, math.MaxInt, math.MaxInt - n, math.MinInt} {
				sell, back := bothAre(t, limits, sold, class, many)
				counts[[2]api.Errno{sell, back}]++
			}
		}
	}
	for _, sell := range []api.Errno{api.OK, api.ErrFull, api.ErrArg} {
		for _, back := range []api.Errno{api.OK, api.ErrArg} {
			if n := counts[[2]api.Errno{sell, back}]; (n < 1000) != (sell == api.ErrArg && back == api.OK) {
				t.Error(sell, back, n)
			}
		}
	}
}
