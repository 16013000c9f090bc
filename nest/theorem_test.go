package nest_test

import (
	"math/rand"
	"slices"
	"testing"

	"jetway/api"
	"jetway/nest"
)

// P14.4, by itself: nothing here asks the second reading, but for the limits and sales to begin with.

// valid holds sales against the words alone: no total is above its limit.
func valid(t *testing.T, limits, sold []int) {
	t.Helper()
	total := 0
	for class := len(limits) - 1; class >= 0; class-- {
		total += sold[class]
		if sold[class] < 0 || total > limits[class] {
			t.Fatalf("limits %v: the sales %v are not valid", limits, sold)
		}
	}
	if len(sold) != len(limits) || !nest.Right(limits, sold) {
		t.Fatalf("limits %v: the sales %v are told not to be valid", limits, sold)
	}
}

// leftAll is what is left of each class.
func leftAll(t *testing.T, limits, sold []int) []int {
	t.Helper()
	var all []int
	for class := range limits {
		n, e := nest.Left(limits, sold, class)
		if e != api.OK {
			t.Fatalf("limits %v, sales %v, class %d: error %d", limits, sold, class, e)
		}
		all = append(all, n)
	}
	return all
}

// sellsJust tells that so many can be sold, and not one more, and that giving them back restores the sales.
func sellsJust(t *testing.T, limits, sold []int, class, left int) {
	t.Helper()
	for _, many := range []int{1, left / 2, left - 1, left} {
		if many < 1 || many > left {
			continue
		}
		next, e := nest.Sell(limits, sold, class, many)
		if e != api.OK {
			t.Fatalf("limits %v, sales %v, %d of %d left of class %d: error %d", limits, sold, many, left, class, e)
		}
		valid(t, limits, next)
		if n, _ := nest.Left(limits, next, class); n != left-many {
			t.Fatalf("limits %v, sales %v, %d of %d left of class %d: %d are left", limits, sold, many, left, class, n)
		}
		before, e := nest.Back(limits, next, class, many)
		if e != api.OK || !slices.Equal(before, sold) {
			t.Fatalf("limits %v, sales %v, %d of class %d sold and given back: %v, error %d", limits, sold, many, class, before, e)
		}
	}
	if left == api.MaxSeats {
		return
	}
	if _, e := nest.Sell(limits, sold, class, left+1); e != api.ErrFull {
		t.Fatalf("limits %v, sales %v, one more than the %d left of class %d: error %d", limits, sold, left, class, e)
	}
	// One more would not be valid.
	if more := with(sold, class, sold[class]+left+1); nest.Right(limits, more) {
		t.Fatalf("limits %v, sales %v, %d left of class %d: %v are valid", limits, sold, left, class, more)
	}
}

func theorem(t *testing.T, limits, sold []int) {
	t.Helper()
	valid(t, limits, sold)
	left := leftAll(t, limits, sold)
	for class, n := range left {
		if class > 0 && n > left[class-1] {
			t.Fatalf("limits %v, sales %v: a lower class has more left: %v", limits, sold, left)
		}
		sellsJust(t, limits, sold, class, n)
	}
}

// TestTheoremOfAllSmall: all limits of up to three classes of up to four seats, and all their sales.
func TestTheoremOfAllSmall(t *testing.T) {
	many := 0
	for classes := 1; classes <= 3; classes++ {
		all := lists(classes, 0, 1, 2, 3, 4)
		for _, limits := range all {
			for _, sold := range all {
				if plainRight(limits, sold) {
					theorem(t, limits, sold)
					many++
				}
			}
		}
	}
	if many < 300 {
		t.Error(many)
	}
}

// TestSequences: drawn sales and returns of drawn limits, from no sales on.
func TestSequences(t *testing.T) {
	r := rand.New(rand.NewSource(6))
	sold, full, back, not := 0, 0, 0, 0
	for range 1000 {
		limits := drawLimits(r)
		now := make([]int, len(limits))
		for range 30 {
			class := r.Intn(len(limits))
			left, _ := nest.Left(limits, now, class)
			many := 1 + []int{r.Intn(10000), r.Intn(left + 1), r.Intn(now[class] + 1), r.Intn(3)}[r.Intn(4)]
			f, done, refused, why := nest.Sell, &sold, &full, api.ErrFull
			if r.Intn(3) == 0 {
				f, done, refused, why = nest.Back, &back, &not, api.ErrArg
			}
			next, e := f(limits, now, class, min(many, api.MaxSeats))
			switch e {
			case api.OK:
				*done++
				now = next
				theorem(t, limits, now)
			case why:
				*refused++
			default:
				t.Fatalf("limits %v, sales %v, %d of class %d: error %d", limits, now, many, class, e)
			}
		}
	}
	if min(sold, full, back, not) < 1000 {
		t.Error(sold, full, back, not)
	}
}

// TestSellingAndReturningInAnyOrder: what was sold of several classes may be given back in another order, and restores the sales.
func TestSellingAndReturningInAnyOrder(t *testing.T) {
	r := rand.New(rand.NewSource(7))
	many := 0
	for range 3000 {
		limits := drawLimits(r)
		start := drawSold(r, limits)
		now := start
		var sales [][2]int
		for range 10 {
			class := r.Intn(len(limits))
			left, _ := nest.Left(limits, now, class)
			n := 1 + r.Intn(1+left/2)
			if next, e := nest.Sell(limits, now, class, n); e == api.OK {
				now = next
				sales = append(sales, [2]int{class, n})
			}
		}
		many += len(sales)
		r.Shuffle(len(sales), func(i, j int) { sales[i], sales[j] = sales[j], sales[i] })
		for _, s := range sales {
			next, e := nest.Back(limits, now, s[0], s[1])
			if e != api.OK {
				t.Fatalf("limits %v, sales %v, %v given back: error %d", limits, now, s, e)
			}
			valid(t, limits, next)
			now = next
		}
		if !slices.Equal(now, start) {
			t.Fatalf("limits %v, sales %v: %v", limits, start, now)
		}
	}
	if many < 2000 {
		t.Error(many)
	}
}

// TestLimitsGoWithSales: what Limits returns are limits for which no sales are valid, and all can be sold.
func TestLimitsGoWithSales(t *testing.T) {
	r := rand.New(rand.NewSource(8))
	for range 3000 {
		seats := []int{0, 1, 10000, r.Intn(10001)}[r.Intn(4)]
		parts := make([]float64, 1+r.Intn(8))
		for i := range parts {
			parts[i] = edges[r.Intn(len(edges))]
		}
		limits, e := nest.Limits(seats, parts)
		if e != api.OK || len(limits) != len(parts) || limits[0] != seats {
			t.Fatalf("%d seats, parts %v: %v, error %d", seats, parts, limits, e)
		}
		none := make([]int, len(limits))
		theorem(t, limits, none)
		if left := leftAll(t, limits, none); !slices.Equal(left, limits) {
			t.Fatalf("limits %v, nothing sold: %v are left", limits, left)
		}
	}
}
