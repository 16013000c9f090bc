package flight_test

import (
	"math"
	"slices"
	"testing"

	"jetway/api"
	"jetway/flight"
)

// P15.1, New

func newFails(t *testing.T, number int, l api.Layout, parts []float64) {
	t.Helper()
	if f, e := flight.New(number, l, parts); f != nil || e != api.ErrArg {
		t.Errorf("flight %d, %v, parts %v: error %d, a flight: %t", number, l, parts, e, f != nil)
	}
}

func TestNewNumbers(t *testing.T) {
	for _, n := range []int{1, 2, 255, 256, 9998, 9999} {
		if x := opened(t, n, layout(1, 2, 2), 1, 0.5); x == nil || x.f.Number() != n {
			t.Errorf("flight %d is none", n)
		}
	}
	for _, n := range append(far, 0, 10000) {
		if n < 1 || n > 9999 {
			newFails(t, n, layout(1, 2, 2), []float64{1, 0.5})
		}
	}
}

func TestNewLayouts(t *testing.T) {
	for _, l := range []api.Layout{
		layout(1, 1), layout(60, 1), layout(1, 10), layout(60, 10), layout(60, 1, 1, 1, 1), layout(1, 7, 1, 1, 1), layout(60, 3, 4, 3), layout(2, 3, 3), layout(59, 9), layout(9, 1, 2, 3, 4),
	} {
		if x := opened(t, 1, l, 1); x == nil {
			t.Errorf("%v is not valid", l)
		}
	}
	for _, l := range wrongLayouts() {
		newFails(t, 1, l, []float64{1})
		newFails(t, 0, l, []float64{1})
		newFails(t, 1, l, nil)
	}
}

func wrongLayouts() []api.Layout {
	l := []api.Layout{
		{}, layout(1), layout(60), layout(0, 1), layout(61, 1), layout(-1, 1), layout(0), layout(-1),
		layout(1, 0), layout(1, 11), layout(1, -1), layout(1, 5, 0), layout(1, 0, 5), layout(1, 5, -1), layout(1, 5, 6), layout(1, 11, -1), layout(1, 10, 0),
		layout(1, 3, 3, 3, 2), layout(1, 1, 1, 1, 8), layout(1, 1, 1, 1, 1, 1), layout(1, 2, 2, 2, 2, 2), layout(1, 1, 1, 1, 0), layout(1, 1, 1, 1, 1, 0),
		layout(1, math.MaxInt, math.MaxInt, 4), layout(1, 1<<62, 1<<62, 1<<62, 1<<62), layout(1, math.MinInt, math.MinInt, 6), layout(1, math.MaxInt, math.MinInt, 2),
		layout(1<<32+1, 1), layout(1, 1<<32+1),
	}
	for _, n := range far {
		l = append(l, layout(n, 2, 2), layout(1, n), layout(1, 2, n))
	}
	return l
}

// TestNewLimits: the limits are what is left of a flight without holds.
func TestNewLimits(t *testing.T) {
	below := math.Nextafter(1, 0)
	nan, inf := math.NaN(), math.Inf(1)
	for _, c := range []struct {
		l     api.Layout
		parts []float64
		want  []int
	}{
		{layout(1, 2, 2), []float64{1, 0.5}, []int{4, 2}},
		{layout(1, 2, 2), []float64{1}, []int{4}},
		{layout(1, 2, 2), []float64{0}, []int{4}},
		{layout(1, 2, 2), []float64{nan}, []int{4}},
		{layout(1, 2, 2), []float64{0.5, 0.5}, []int{4, 2}},
		{layout(1, 2, 2), []float64{1, 0.5, 0.75}, []int{4, 2, 2}},
		{layout(1, 2, 2), []float64{1, 0.75, nan, 1}, []int{4, 3, 0, 0}},
		{layout(1, 2, 2), []float64{1, inf, 2, -1, math.Inf(-1)}, []int{4, 4, 4, 0, 0}},
		{layout(1, 2, 2), []float64{1, below, 0.25, math.Copysign(0, -1)}, []int{4, 3, 1, 0}},
		{layout(1, 1), []float64{1, 1, below}, []int{1, 1, 0}},
		{layout(1, 10), []float64{1, 0.9, 0.8, 0.7, 0.6, 0.5, 0.4, 0.3}, []int{10, 9, 8, 7, 6, 5, 4, 3}},
		{layout(60, 10), []float64{1, 1, 1, 1, 1, 1, 1, 1}, []int{600, 600, 600, 600, 600, 600, 600, 600}},
		{layout(60, 10), []float64{0, 1, below, 0.5, 0.001, 0.002, 0.003, 1}, []int{600, 600, 599, 300, 0, 0, 0, 0}},
		{layout(60, 3, 4, 2), []float64{1, 1.0 / 3}, []int{540, 180}},
	} {
		x := opened(t, 5, c.l, c.parts...)
		if x == nil {
			t.Fatalf("%v, parts %v: no flight", c.l, c.parts)
		}
		x.left(c.want...)
	}
}

func TestNewParts(t *testing.T) {
	parts := make([]float64, 100)
	for i := range parts {
		parts[i] = 1
	}
	for n := range len(parts) + 1 {
		if n >= 1 && n <= 8 {
			opened(t, 1, layout(1, 2, 2), parts[:n]...).left(slices.Repeat([]int{4}, n)...)
			continue
		}
		newFails(t, 1, layout(1, 2, 2), parts[:n])
		newFails(t, 0, layout(1, 2, 2), parts[:n])
		newFails(t, 1, layout(1, 11), parts[:n])
	}
	newFails(t, 1, layout(1, 2, 2), nil)
}

func TestNewHasNoHolds(t *testing.T) {
	for _, l := range []api.Layout{layout(1, 1), layout(1, 2, 2), layout(60, 10)} {
		f, _ := flight.New(1, l, []float64{1, 0.5, 0.1})
		if len(f.Holds()) != 0 || !slices.Equal(f.Sold(), []int{0, 0, 0}) {
			t.Errorf("%v: %v, sales %v", l, f.Holds(), f.Sold())
		}
		for _, owner := range append(far, 0, 1, 7, greatest) {
			if got := f.Labels(owner); len(got) != 0 {
				t.Errorf("owner %d has %q", owner, got)
			}
			if e := f.Give(owner); e != api.ErrNone {
				t.Errorf("Give of %d: error %d", owner, e)
			}
		}
	}
}
