package nest_test

import (
	"math"
	"math/big"
	"math/rand"
	"slices"

	"jetway/api"
)

// This file follows the document's words by other means than the package does: totals are added anew for each class, in numbers that do not wrap round, and levels are rounded from exact products.

// plainLevel is chapter 3's Level, of seats that may be.
func plainLevel(part float64, seats int) int {
	switch {
	case math.IsNaN(part), math.Signbit(part), part == 0:
		return 0
	case math.IsInf(part, 1), part >= 1:
		return seats
	}
	product := new(big.Float).SetPrec(53).SetMode(big.ToNearestEven)
	product.Mul(big.NewFloat(part), big.NewFloat(float64(seats)))
	whole, _ := product.Int64()
	return int(whole)
}

func plainLimits(seats int, parts []float64) ([]int, api.Errno) {
	if seats <= -1 || seats >= 10001 || !slices.Contains([]int{1, 2, 3, 4, 5, 6, 7, 8}, len(parts)) {
		return nil, api.ErrArg
	}
	limits := []int{seats}
	for class := 1; class < len(parts); class++ {
		limits = append(limits, slices.Min([]int{plainLevel(parts[class], seats), limits[class-1]}))
	}
	return limits, api.OK
}

// room is the limit of a class minus the total sales of the classes from it on.
func room(limits, sold []int, class int) *big.Int {
	left := big.NewInt(int64(limits[class]))
	for _, n := range sold[class:] {
		left.Sub(left, big.NewInt(int64(n)))
	}
	return left
}

func plainRight(limits, sold []int) bool {
	if len(limits) == 0 || len(limits) >= 9 || len(sold) != len(limits) {
		return false
	}
	for class := range limits {
		if limits[class] <= -1 || limits[class] >= 10001 || sold[class] <= -1 || sold[class] >= 10001 {
			return false
		}
		if class > 0 && limits[class-1] < limits[class] || room(limits, sold, class).Sign() < 0 {
			return false
		}
	}
	return true
}

func plainLeft(limits, sold []int, class int) (int, api.Errno) {
	if !plainRight(limits, sold) || class <= -1 || class >= len(limits) {
		return 0, api.ErrArg
	}
	least := room(limits, sold, class)
	for k := 0; k < class; k++ {
		if r := room(limits, sold, k); r.Cmp(least) < 0 {
			least = r
		}
	}
	return int(least.Int64()), api.OK
}

func plainSell(limits, sold []int, class, many int) ([]int, api.Errno) {
	left, e := plainLeft(limits, sold, class)
	switch {
	case e != api.OK || many <= 0 || many >= 10001:
		return nil, api.ErrArg
	case many > left:
		return nil, api.ErrFull
	}
	return with(sold, class, sold[class]+many), api.OK
}

func plainBack(limits, sold []int, class, many int) ([]int, api.Errno) {
	_, e := plainLeft(limits, sold, class)
	if e != api.OK || many <= 0 || many >= 10001 || sold[class] < many {
		return nil, api.ErrArg
	}
	return with(sold, class, sold[class]-many), api.OK
}

// with is a list like another one, but for one number.
func with(l []int, at, n int) []int {
	next := slices.Clone(l)
	next[at] = n
	return next
}

// lists are all lists of so many of these numbers.
func lists(length int, numbers ...int) [][]int {
	all := [][]int{nil}
	for range length {
		var next [][]int
		for _, l := range all {
			for _, n := range numbers {
				next = append(next, append(slices.Clone(l), n))
			}
		}
		all = next
	}
	return all
}

// drawLimits are limits that are valid, near one another or far apart.
func drawLimits(r *rand.Rand) []int {
	limit := []int{r.Intn(10), r.Intn(10001), 10000}[r.Intn(3)]
	limits := []int{limit}
	for range r.Intn(8) {
		switch r.Intn(3) {
		case 0:
			limit = r.Intn(limit + 1)
		case 1:
			limit -= r.Intn(min(limit, 3) + 1)
		}
		limits = append(limits, limit)
	}
	return limits
}

// drawSold are sales that are valid for the limits, often with nothing left of some classes.
func drawSold(r *rand.Rand, limits []int) []int {
	sold := make([]int, len(limits))
	for range r.Intn(12) {
		class := r.Intn(len(limits))
		left, _ := plainLeft(limits, sold, class)
		sold[class] += []int{r.Intn(left + 1), left, left - r.Intn(min(left, 2)+1)}[r.Intn(3)]
	}
	return sold
}
