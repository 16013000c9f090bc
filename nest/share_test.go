package nest_test

import (
	"math"
	"slices"
	"testing"

	"jetway/api"
	"jetway/nest"
)

// R3 and R4: nothing is changed, kept or shared.

// roomy is a list with other numbers behind its end.
func roomy(l ...int) []int {
	return append(slices.Clone(l), 77, 77, 77, 77, 77, 77, 77, 77)[:len(l)]
}

// callAll calls everything that looks at sales.
func callAll(limits, sold []int) {
	nest.Right(limits, sold)
	for _, class := range []int{-1, 0, 1, 2, 3, 7, 8} {
		nest.Left(limits, sold, class)
		for _, many := range []int{-1, 0, 1, 2, 3, 10000, 10001} {
			nest.Sell(limits, sold, class, many)
			nest.Back(limits, sold, class, many)
		}
	}
}

func TestArgumentsAreNotChanged(t *testing.T) {
	for _, limits := range [][]int{roomy(10, 6, 3), roomy(10000, 10000, 10000), roomy(5), roomy(3, 6, 9), roomy(), roomy(8, 7, 6, 5, 4, 3, 2, 1)} {
		for _, sold := range [][]int{roomy(2, 1, 3), roomy(0, 0, 0), roomy(3), roomy(9, 9, 9), roomy(3, -1, 2), roomy(), roomy(1, 0, 0, 1, 0, 1, 1, 0)} {
			wantLimits, wantSold := slices.Clone(limits[:cap(limits)]), slices.Clone(sold[:cap(sold)])
			callAll(limits, sold)
			if !slices.Equal(limits[:cap(limits)], wantLimits) || !slices.Equal(sold[:cap(sold)], wantSold) {
				t.Errorf("%v and %v, were %v and %v", limits[:cap(limits)], sold[:cap(sold)], wantLimits, wantSold)
			}
		}
	}
}

func TestPartsAreNotChanged(t *testing.T) {
	bits := func(l []float64) []uint64 {
		var u []uint64
		for _, f := range l[:cap(l)] {
			u = append(u, math.Float64bits(f))
		}
		return u
	}
	for many := range 11 {
		parts := []float64{nan, 0.5, minusZero, 0.8, infinity, -1, 2, below1, 0.3, 1, 1, 1, 1}[:many]
		want := bits(parts)
		for _, seats := range []int{-1, 0, 10, 10000, 10001} {
			nest.Limits(seats, parts)
		}
		if got := bits(parts); !slices.Equal(got, want) {
			t.Errorf("%x, were %x", got, want)
		}
	}
}

func TestResultsBelongToTheCaller(t *testing.T) {
	limits, sold, parts := roomy(10, 6, 3), roomy(2, 1, 3), []float64{1, 0.55, 0.3}
	for range 3 {
		a, e := nest.Limits(10, parts)
		b, f := nest.Sell(limits, sold, 1, 2)
		c, g := nest.Back(limits, sold, 2, 3)
		if !slices.Equal(a, []int{10, 5, 3}) || !slices.Equal(b, []int{2, 3, 3}) || !slices.Equal(c, []int{2, 1, 0}) || e+f+g != api.OK {
			t.Fatal(a, b, c, e, f, g)
		}
		for _, l := range [][]int{a, b, c} {
			l = l[:cap(l)]
			for i := range l {
				l[i] = 99
			}
		}
		if !slices.Equal(limits[:6], []int{10, 6, 3, 77, 77, 77}) || !slices.Equal(sold[:6], []int{2, 1, 3, 77, 77, 77}) {
			t.Fatal(limits[:6], sold[:6])
		}
	}
}

func TestNothingIsKept(t *testing.T) {
	limits, sold, parts := []int{10, 6, 3}, []int{2, 1, 3}, []float64{1, 0.5, 0.3}
	a, _ := nest.Limits(10, parts)
	b, _ := nest.Sell(limits, sold, 1, 2)
	c, _ := nest.Back(limits, sold, 2, 3)
	limits[1], sold[2], parts[1] = 9, 1, 0.8
	// Results ahead do not see the changes, and results behind do.
	if !slices.Equal(a, []int{10, 5, 3}) || !slices.Equal(b, []int{2, 3, 3}) || !slices.Equal(c, []int{2, 1, 0}) {
		t.Error(a, b, c)
	}
	limitsAre(t, 10, parts, []int{10, 8, 3}, api.OK)
	limitsAre(t, 20, parts, []int{20, 16, 6}, api.OK)
	leftIs(t, limits, sold, 1, 6, api.OK)
	sellIs(t, limits, sold, 1, 6, []int{2, 7, 1}, api.OK)
	backIs(t, limits, sold, 2, 1, []int{2, 1, 0}, api.OK)
	limits[1], limits[2] = 2, 2
	leftIs(t, limits, sold, 1, 0, api.OK)
	limits[1], limits[2] = 1, 1
	rightIs(t, limits, sold, false)
	limits[1] = 11
	rightIs(t, limits, sold, false)
}
