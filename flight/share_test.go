package flight_test

import (
	"bytes"
	"math"
	"slices"
	"testing"

	"jetway/api"
	"jetway/flight"
)

// R3 and R4: nothing is changed, kept or shared.

// roomy is a list with other numbers behind its end.
func roomy(l ...int) []int {
	return append(slices.Clone(l), 77, 77, 77, 77, 77, 77, 77, 77)[:len(l)]
}

// ruin writes over a list, and over what is behind its end.
func ruin[T any](l []T, with T) {
	l = l[:cap(l)]
	for i := range l {
		l[i] = with
	}
}

func TestNewChangesNothing(t *testing.T) {
	bits := func(l []float64) []uint64 {
		var u []uint64
		for _, f := range l[:cap(l)] {
			u = append(u, math.Float64bits(f))
		}
		return u
	}
	for _, groups := range [][]int{roomy(2, 2), roomy(10), roomy(4, 3, 2, 1), roomy(11), roomy(), roomy(5, 6)} {
		for many := range 11 {
			parts := []float64{math.NaN(), 0.5, math.Copysign(0, -1), 0.8, math.Inf(1), -1, 2, 0.9, 0.3, 1, 7, 7}[:many]
			wantGroups, wantParts := slices.Clone(groups[:cap(groups)]), bits(parts)
			for _, number := range []int{0, 1, 9999} {
				flight.New(number, api.Layout{Rows: 2, Groups: groups}, parts)
			}
			if got := groups[:cap(groups)]; !slices.Equal(got, wantGroups) || !slices.Equal(bits(parts), wantParts) {
				t.Errorf("%v and %v, was %v", got, parts, wantGroups)
			}
		}
	}
}

func TestNewKeepsNothing(t *testing.T) {
	groups, parts := roomy(2, 2), []float64{1, 0.5, 0.25}
	f, e := flight.New(1, api.Layout{Rows: 2, Groups: groups}, parts)
	p, _ := plainNew(1, layout(2, 2, 2), []float64{1, 0.5, 0.25})
	ruin(groups, 1)
	ruin(parts, 0)
	x := &pair{t, f, p}
	if e != api.OK {
		t.Fatal(e)
	}
	x.same()
	x.left(8, 4, 2)
	x.take(5, 1, 4, api.OK)
	x.seat(5, "2D", api.OK)
	x.has(5, "2D")
}

// busy is a flight with several holds, one of them without seats.
func busy(t *testing.T) *pair {
	t.Helper()
	x := two(t)
	for _, owner := range []int{3, 9, 6} {
		x.take(owner, owner%2, 3, api.OK)
	}
	x.seat(9, "1C", api.OK)
	x.seat(9, "1B", api.OK)
	x.auto(6, api.OK, "1D", "1E", "1F")
	return x
}

func TestResultsBelongToTheCaller(t *testing.T) {
	x := busy(t)
	for range 3 {
		ruin(x.f.Left(), 99)
		ruin(x.f.Sold(), 99)
		ruin(x.f.Labels(9), "2F")
		ruin(x.f.Encode(), 99)
		holds := x.f.Holds()
		for _, h := range holds {
			ruin(h.Seats, 99)
		}
		ruin(holds, api.Hold{Owner: 5, Class: 1, Many: 1})
		x.same()
	}
	x.take(4, 0, 2, api.OK)
	labels, _ := x.autoOf(4)
	ruin(labels, "2F")
	x.same()
	x.has(4, "2A", "2B")
	x.seat(9, "1A", api.OK)
	x.has(9, "1A", "1B", "1C")
}

// TestListsOfOneAnswer: no two of them share anything.
func TestListsOfOneAnswer(t *testing.T) {
	x := busy(t)
	holds, want := x.f.Holds(), x.p.holds()
	for i := range holds {
		ruin(holds[i].Seats, 99)
		for j := i + 1; j < len(holds); j++ {
			if !sameHold(holds[j], want[j]) {
				t.Fatalf("%v, want %v", holds[j], want[j])
			}
		}
	}
}

// TestResultsStay: what was told is not changed by what is called behind it.
func TestResultsStay(t *testing.T) {
	x := busy(t)
	left, sold, labels, holds, b := x.f.Left(), x.f.Sold(), x.f.Labels(9), x.f.Holds(), x.f.Encode()
	wantHolds, wantBytes := x.p.holds(), x.p.code().bytes()
	x.take(1, 0, 1, api.OK)
	x.auto(1, api.OK, "1A")
	x.unseat(9, "1B", api.OK)
	x.unseat(6, "1D", api.OK)
	x.seat(6, "2A", api.OK)
	x.seat(9, "2B", api.OK)
	x.seat(3, "2F", api.OK)
	x.give(6, api.OK)
	if !slices.Equal(left, []int{3, 0}) || !slices.Equal(sold, []int{3, 6}) || !slices.Equal(labels, []string{"1B", "1C"}) {
		t.Error(left, sold, labels)
	}
	if !slices.EqualFunc(holds, wantHolds, sameHold) || string(b) != wantBytes {
		t.Error(holds, wantHolds, b)
	}
}

func TestDecodeKeepsNothing(t *testing.T) {
	b := append([]byte(base().bytes()), 77, 77, 77, 77)[:len(base().bytes())]
	want := bytes.Clone(b[:cap(b)])
	f, e := flight.Decode(b)
	if e != api.OK || !bytes.Equal(b[:cap(b)], want) {
		t.Fatal(e, b[:cap(b)])
	}
	p, _ := plainOf(base())
	x := &pair{t, f, p}
	ruin(b, 99)
	x.same()
	want = bytes.Clone(b)
	if _, e := flight.Decode(b); e != api.ErrForm || !bytes.Equal(b, want) {
		t.Error(e, b)
	}
	x.give(4, api.OK)
	x.auto(300, api.OK, "1A")
}

// TestFlightsAreApart: what is done to one is not done to another, however that came about.
func TestFlightsAreApart(t *testing.T) {
	x := busy(t)
	y := x.again()
	y.p, _ = plainOf(x.p.code())
	z := busy(t)
	x.give(9, api.OK)
	x.unseat(6, "1D", api.OK)
	x.take(8, 0, 4, api.OK)
	y.same()
	y.seat(9, "1A", api.OK)
	y.unseat(6, "1F", api.OK)
	y.give(3, api.OK)
	x.same()
	z.same()
	z.has(9, "1B", "1C")
	z.has(6, "1D", "1E", "1F")
}
