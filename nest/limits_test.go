package nest_test

import (
	"math"
	"math/rand"
	"slices"
	"testing"

	"jetway/api"
	"jetway/nest"
)

// P14.1, Limits

// far are numbers that are great or small, or near an end of something.
var far = []int{math.MinInt, math.MinInt + 1, math.MinInt + 9, math.MinInt32, -10001, -10000, -9, -8, -2, -1, 0, 1, 2, 7, 8, 9, 9999, 10000, 10001, 10002, 1 << 16, math.MaxInt32, 1 << 32, 1<<32 + 5, 1<<62 + 5, math.MaxInt - 9, math.MaxInt - 1, math.MaxInt}

var (
	nan       = math.NaN()
	infinity  = math.Inf(1)
	minusZero = math.Copysign(0, -1)
	below1    = math.Nextafter(1, 0)
	above1    = math.Nextafter(1, 2)
)

// edges are parts at which a level changes, and such as are no numbers.
var edges = []float64{
	nan, -nan, math.Float64frombits(0x7FF0000000000001), math.Float64frombits(0xFFF8000000000123),
	infinity, -infinity, -1, -0.5, -math.SmallestNonzeroFloat64, -math.MaxFloat64, minusZero, 0, math.SmallestNonzeroFloat64, 0x1p-1022,
	0.0001, math.Nextafter(0.0001, 0), 0.001, 0.1, 0.29, 0.3, 0.55, 0.57, 1.0 / 3, 2.0 / 3, math.Nextafter(0.5, 0), 0.5, math.Nextafter(0.5, 1), 0.9999, below1,
	1, above1, 1.5, 2, 10000, 1e300, math.MaxFloat64,
}

func limitsAre(t *testing.T, seats int, parts []float64, want []int, e api.Errno) {
	t.Helper()
	if l, got := nest.Limits(seats, parts); !slices.Equal(l, want) || got != e {
		t.Fatalf("limits of %d seats and %v: %v and %d, want %v and %d", seats, parts, l, got, want, e)
	}
}

func TestLimitsScenes(t *testing.T) {
	for _, c := range []struct {
		what  string
		seats int
		parts []float64
		want  []int
	}{
		{"the chapter's", 10, []float64{1, 0.55, nan}, []int{10, 5, 0}},
		{"one part", 10, []float64{1}, []int{10}},
		{"eight parts", 100, []float64{1, 0.9, 0.8, 0.75, 0.5, 0.25, 0.125, 0.0625}, []int{100, 90, 80, 75, 50, 25, 12, 6}},
		{"eight parts, all of them 1", 7, []float64{1, 1, 1, 1, 1, 1, 1, 1}, []int{7, 7, 7, 7, 7, 7, 7, 7}},
		{"no seats", 0, []float64{1}, []int{0}},
		{"no seats", 0, []float64{1, 1, 0.5, infinity, nan, -1, 2, below1}, []int{0, 0, 0, 0, 0, 0, 0, 0}},
		{"one seat", 1, []float64{1, 1, below1, 1}, []int{1, 1, 0, 0}},
		{"the most seats", 10000, []float64{1, 1, below1, 0.5, 0.0001, math.Nextafter(0.0001, 0)}, []int{10000, 10000, 9999, 5000, 1, 0}},
		{"the most seats, one part", 10000, []float64{0}, []int{10000}},
		{"the first part is not used: 0", 10, []float64{0, 1}, []int{10, 10}},
		{"the first part is not used: -0", 10, []float64{minusZero, 0.5}, []int{10, 5}},
		{"the first part is not used: a half", 10, []float64{0.5, 0.8, 0.6}, []int{10, 8, 6}},
		{"the first part is not used: NaN", 10, []float64{nan, 0.8}, []int{10, 8}},
		{"the first part is not used: NaN alone", 10, []float64{nan}, []int{10}},
		{"the first part is not used: infinite", 10, []float64{infinity, 0.8}, []int{10, 8}},
		{"the first part is not used: negative", 10, []float64{-1, 0.8}, []int{10, 8}},
		{"the first part is not used: minus infinite", 10, []float64{-infinity, 1}, []int{10, 10}},
		{"the first part is not used: 2", 10, []float64{2, 0.3}, []int{10, 3}},
		{"NaN", 10, []float64{1, nan, 1}, []int{10, 0, 0}},
		{"infinite", 10, []float64{1, infinity, 0.5}, []int{10, 10, 5}},
		{"minus infinite", 10, []float64{1, -infinity, 0.5}, []int{10, 0, 0}},
		{"negative", 10, []float64{1, -0.5}, []int{10, 0}},
		{"both noughts", 10, []float64{1, 0}, []int{10, 0}},
		{"both noughts", 10, []float64{1, minusZero}, []int{10, 0}},
		{"above 1", 10, []float64{1, above1, 1.5, 1e300, 0.7}, []int{10, 10, 10, 10, 7}},
		{"just below 1", 10, []float64{1, below1}, []int{10, 9}},
		{"just below a half", 10, []float64{1, math.Nextafter(0.5, 0)}, []int{10, 4}},
		{"a half, and just above", 10, []float64{1, math.Nextafter(0.5, 1), 0.5}, []int{10, 5, 5}},
		{"0.29 of 100, of which the product is below 29", 100, []float64{1, 0.57, 0.29}, []int{100, 56, 28}},
		{"0.3, which is below three tenths, but not the product", 10, []float64{1, 0.3}, []int{10, 3}},
		{"a third of 3, of which the product is 1", 3, []float64{1, 2.0 / 3, 1.0 / 3}, []int{3, 2, 1}},
		{"the fraction is cut off", 7, []float64{1, 0.999, 0.5, 0.2, 0.14}, []int{7, 6, 3, 1, 0}},
		{"a greater part than the one before", 10, []float64{1, 0.5, 0.8}, []int{10, 5, 5}},
		{"a greater part than the two before", 10, []float64{1, 0.5, 0.4, 0.8, 0.6}, []int{10, 5, 4, 4, 4}},
		{"a greater part than the one further before", 10, []float64{1, 0.5, 0.8, 0.6, 0.3, 1}, []int{10, 5, 5, 5, 3, 3}},
		{"a greater one behind none", 10, []float64{1, 0, 1, 1}, []int{10, 0, 0, 0}},
		{"each part is of all seats", 100, []float64{1, 0.5, 0.5, 0.5}, []int{100, 50, 50, 50}},
	} {
		t.Run(c.what, func(t *testing.T) {
			limitsAre(t, c.seats, c.parts, c.want, api.OK)
		})
	}
}

func TestLimitsArgs(t *testing.T) {
	for _, seats := range far {
		for many := range 12 {
			for _, part := range []float64{1, 0.5, nan} {
				parts := slices.Repeat([]float64{part}, many)
				want, e := plainLimits(seats, parts)
				limitsAre(t, seats, parts, want, e)
			}
		}
	}
	half := []float64{1, 0.5}
	limitsAre(t, -1, half, nil, api.ErrArg)
	limitsAre(t, 10001, half, nil, api.ErrArg)
	limitsAre(t, 0, half, []int{0, 0}, api.OK)
	limitsAre(t, 10000, half, []int{10000, 5000}, api.OK)
	limitsAre(t, -1, []float64{1}, nil, api.ErrArg)
	limitsAre(t, 10001, []float64{1}, nil, api.ErrArg)
	limitsAre(t, 10, nil, nil, api.ErrArg)
	limitsAre(t, 10, []float64{}, nil, api.ErrArg)
	limitsAre(t, 10, make([]float64, 9), nil, api.ErrArg)
	limitsAre(t, 10, make([]float64, 8), []int{10, 0, 0, 0, 0, 0, 0, 0}, api.OK)
	limitsAre(t, 10, make([]float64, 100000), nil, api.ErrArg)
	// Both are wrong.
	limitsAre(t, -1, nil, nil, api.ErrArg)
	limitsAre(t, 10001, make([]float64, 9), nil, api.ErrArg)
}

func TestLimitsAtAllEdges(t *testing.T) {
	for _, seats := range []int{0, 1, 2, 3, 7, 10, 100, 8191, 8192, 9999, 10000} {
		for _, a := range edges {
			for _, b := range edges {
				for _, parts := range [][]float64{{a}, {a, b}, {1, a, b}, {b, a, 0.5, b}} {
					want, e := plainLimits(seats, parts)
					limitsAre(t, seats, parts, want, e)
				}
			}
		}
	}
}

// TestLimitsJustBelowEachSeat: of all numbers of seats, at some levels of each.
func TestLimitsJustBelowEachSeat(t *testing.T) {
	r := rand.New(rand.NewSource(1))
	for seats := 1; seats <= 10000; seats++ {
		part := float64(1+r.Intn(seats)) / float64(seats)
		parts := []float64{1, math.Nextafter(part, 2), part, math.Nextafter(part, 0)}
		want, e := plainLimits(seats, parts)
		limitsAre(t, seats, parts, want, e)
	}
}

func TestLimitsDrawn(t *testing.T) {
	r := rand.New(rand.NewSource(2))
	for range 20000 {
		seats := []int{r.Intn(10), r.Intn(10001), r.Intn(10003) - 1}[r.Intn(3)]
		parts := make([]float64, r.Intn(10))
		for i := range parts {
			parts[i] = []float64{r.Float64(), r.NormFloat64(), math.Float64frombits(r.Uint64()), edges[r.Intn(len(edges))], float64(r.Intn(101)) / 100}[r.Intn(5)]
		}
		want, e := plainLimits(seats, parts)
		limitsAre(t, seats, parts, want, e)
	}
}
