package nest_test

import (
	"math"
	"math/rand"
	"slices"
	"testing"

	"jetway/nest"
)

// P14.1, Right

func rightIs(t *testing.T, limits, sold []int, want bool) {
	t.Helper()
	if nest.Right(limits, sold) != want {
		t.Fatalf("limits %v and sales %v: %v, want %v", limits, sold, !want, want)
	}
}

func same(n, many int) []int {
	return slices.Repeat([]int{n}, many)
}

func TestRightScenes(t *testing.T) {
	for _, c := range []struct {
		what         string
		limits, sold []int
	}{
		{"the chapter's", []int{10, 6, 3}, []int{2, 1, 3}},
		{"one limit", []int{5}, []int{0}},
		{"as many as the limit", []int{5}, []int{5}},
		{"a limit of 0", []int{0}, []int{0}},
		{"the greatest limit", []int{10000}, []int{0}},
		{"the greatest sale", []int{10000}, []int{10000}},
		{"the greatest limits", []int{10000, 10000}, []int{10000, 0}},
		{"the greatest limits", []int{10000, 10000}, []int{0, 10000}},
		{"the greatest limits, shared", []int{10000, 10000}, []int{4000, 6000}},
		{"eight limits", []int{8, 7, 6, 5, 4, 3, 2, 1}, []int{1, 1, 1, 1, 1, 1, 1, 1}},
		{"eight limits of 0", same(0, 8), same(0, 8)},
		{"eight limits of 10000", same(10000, 8), same(1250, 8)},
		{"equal limits", []int{6, 6, 6}, []int{1, 2, 3}},
		{"all of the lowest class", []int{10, 6, 3}, []int{0, 0, 3}},
		{"all of the middle class", []int{10, 6, 3}, []int{0, 6, 0}},
		{"all of the highest class", []int{10, 6, 3}, []int{10, 0, 0}},
		{"every total is its limit", []int{10, 6, 3}, []int{4, 3, 3}},
		{"the higher classes are not limited by lower ones", []int{10, 6, 0}, []int{5, 5, 0}},
		{"the last limit is 0", []int{1, 0}, []int{1, 0}},
	} {
		t.Run(c.what, func(t *testing.T) {
			rightIs(t, c.limits, c.sold, true)
		})
	}
}

// wrong are limits and sales that are not valid, each for one reason, and some for several.
var wrong = [][2][]int{
	{{}, {}},
	{{}, {0}},
	{{5}, {}},
	{{5}, {0, 0}},
	{{5, 5}, {0}},
	{{5, 5}, {0, 0, 0}},
	{{10, 6, 3}, {2, 1}},
	{{10, 6, 3}, {2, 1, 3, 0}},
	{same(5, 8), same(0, 7)},
	{same(5, 8), same(0, 9)},
	{same(5, 9), same(0, 9)},
	{same(5, 9), same(0, 8)},
	{same(0, 9), same(0, 9)},
	{same(9, 1000), same(0, 1000)},
	{{-1}, {0}},
	{{-1}, {-1}},
	{{0}, {-1}},
	{{5}, {-1}},
	{{5, -1}, {0, 0}},
	{{5, -1}, {0, -1}},
	{{10001}, {0}},
	{{10001}, {10001}},
	{{10001, 5}, {0, 0}},
	{{10001, 10001}, {0, 0}},
	{{10000}, {10001}},
	{{10000, 10001}, {0, 0}},
	{{5, 6}, {0, 0}},
	{{0, 1}, {0, 0}},
	{{10, 3, 6}, {0, 0, 0}},
	{{10, 6, 7}, {0, 0, 0}},
	{{10, 6, 3, 4}, {0, 0, 0, 0}},
	{{10, 11, 3}, {0, 0, 0}},
	{{5}, {6}},
	{{0}, {1}},
	{{10, 6, 3}, {5, 3, 3}},
	{{10, 6, 3}, {11, 0, 0}},
	{{10, 6, 3}, {0, 7, 0}},
	{{10, 6, 3}, {0, 0, 4}},
	{{10, 6, 3}, {0, 4, 3}},
	{{10, 6, 3}, {5, 6, 0}},
	{{10, 6, 3}, {8, 0, 3}},
	{{10, 6, 3}, {-1, 0, 0}},
	{{10, 6, 3}, {0, -1, 0}},
	{{10, 6, 3}, {0, 0, -1}},
	{{10, 6, 3}, {11, -1, 0}},
	{{10, 6, 3}, {0, 7, -1}},
	{{10, 6, 3}, {-1, 1, 3}},
	{{6, 6}, {1, 6}},
	{{6, 6}, {6, 1}},
	{{10000, 10000}, {10000, 1}},
	{{10000, 10000}, {1, 10000}},
	{{10000, 10000}, {10000, 10000}},
	{same(10000, 8), same(1251, 8)},
	{same(10000, 8), same(10000, 8)},
	{{8, 7, 6, 5, 4, 3, 2, 1}, {1, 1, 1, 1, 1, 1, 1, 2}},
	{{8, 7, 6, 5, 4, 3, 2, 1}, {2, 1, 1, 1, 1, 1, 1, 1}},
	// Totals that would wrap round.
	{{10, 10}, {math.MaxInt, math.MaxInt}},
	{{10, 10, 10}, {2, math.MaxInt, math.MaxInt}},
	{{10, 10, 10}, {math.MaxInt, math.MaxInt, 2}},
	{{10, 10}, {math.MinInt, math.MinInt}},
	{{10, 10, 10}, {1, math.MinInt, math.MinInt}},
	{{10, 10, 10}, {math.MaxInt, math.MinInt, 1}},
	{{10, 10}, {10 - math.MaxInt, math.MaxInt}},
	{{10, 10}, {math.MaxInt, 10 - math.MaxInt}},
	{same(10, 8), same(1<<61, 8)},
	{same(10, 4), same(1<<62, 4)},
	{{10, 10}, {1 << 32, 0}},
	{{10, 10}, {1<<32 + 5, 1 << 32}},
	{{math.MaxInt}, {0}},
	{{math.MaxInt}, {math.MaxInt}},
	{{math.MinInt}, {0}},
	{{math.MaxInt, math.MinInt}, {0, 0}},
	{{1<<32 + 5, 5}, {0, 0}},
	{{math.MinInt, math.MaxInt}, {math.MinInt, math.MaxInt}},
}

func TestRightWrong(t *testing.T) {
	for _, c := range wrong {
		rightIs(t, c[0], c[1], false)
	}
	rightIs(t, nil, nil, false)
	rightIs(t, nil, []int{0}, false)
	rightIs(t, []int{5}, nil, false)
}

// TestRightWithFarNumbers: in each place of limits and sales that are valid.
func TestRightWithFarNumbers(t *testing.T) {
	for _, c := range [][2][]int{
		{{10, 6, 3}, {2, 1, 3}},
		{{10000}, {9999}},
		{{10000, 10000, 10000, 1, 1, 1, 0, 0}, same(0, 8)},
		{same(10000, 8), same(1000, 8)},
	} {
		rightIs(t, c[0], c[1], true)
		for class := range c[0] {
			for _, n := range far {
				limits, sold := with(c[0], class, n), with(c[1], class, n)
				rightIs(t, limits, c[1], plainRight(limits, c[1]))
				rightIs(t, c[0], sold, plainRight(c[0], sold))
				rightIs(t, limits, sold, plainRight(limits, sold))
			}
		}
	}
}

// TestRightOfAllSmall: all limits and sales of up to three small numbers.
func TestRightOfAllSmall(t *testing.T) {
	right := 0
	for classes := range 4 {
		for many := range 4 {
			all := lists(many, -1, 0, 1, 2, 3, 4)
			for _, limits := range lists(classes, -1, 0, 1, 2, 3) {
				for _, sold := range all {
					want := plainRight(limits, sold)
					rightIs(t, limits, sold, want)
					if want {
						right++
					}
				}
			}
		}
	}
	if right < 100 {
		t.Error(right)
	}
}

// TestRightDrawn: around valid sales of drawn limits.
func TestRightDrawn(t *testing.T) {
	r := rand.New(rand.NewSource(3))
	right, not := 0, 0
	for range 30000 {
		limits := drawLimits(r)
		sold := drawSold(r, limits)
		rightIs(t, limits, sold, true)
		for range 3 {
			class := r.Intn(len(limits))
			sold[class] += r.Intn(5) - 2
			limits[r.Intn(len(limits))] += r.Intn(3) - 1
			want := plainRight(limits, sold)
			rightIs(t, limits, sold, want)
			if want {
				right++
			} else {
				not++
			}
		}
	}
	if min(right, not) < 5000 {
		t.Error(right, not)
	}
}
