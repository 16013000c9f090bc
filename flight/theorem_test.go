package flight_test

import (
	"bytes"
	"math/rand"
	"slices"
	"testing"

	"jetway/api"
	"jetway/flight"
)

// P15.5, by itself: nothing here asks the second reading.

// sound holds a flight against the theorem: limits are what was left of it at its start.
func sound(t *testing.T, f *flight.Flight, seats int, limits []int) {
	t.Helper()
	owners := map[int]int{}
	sold := make([]int, len(limits))
	last := 0
	for _, h := range f.Holds() {
		if h.Owner <= last || h.Owner > greatest || h.Many < 1 || len(h.Seats) > h.Many || !slices.IsSorted(h.Seats) {
			t.Fatalf("a hold %v behind owner %d", h, last)
		}
		for _, n := range h.Seats {
			if owners[n] != 0 || n < 0 || n >= seats {
				t.Fatalf("owner %d has seat %d, which is no seat or owner %d's", h.Owner, n, owners[n])
			}
			owners[n] = h.Owner
		}
		last = h.Owner
		sold[h.Class] += h.Many
	}
	if got := f.Sold(); !slices.Equal(got, sold) {
		t.Fatalf("sales %v, the holds have %v", got, sold)
	}
	total := 0
	for k := len(limits) - 1; k >= 0; k-- {
		total += sold[k]
		if total > limits[k] {
			t.Fatalf("sales %v, above limits %v", sold, limits)
		}
	}
}

// inverse is the flight of a flight's code.
func inverse(t *testing.T, f *flight.Flight) *flight.Flight {
	t.Helper()
	b := f.Encode()
	g, e := flight.Decode(b)
	if e != api.OK || !bytes.Equal(g.Encode(), b) || g.Number() != f.Number() {
		t.Fatalf("%v: error %d", b, e)
	}
	if !slices.Equal(g.Left(), f.Left()) || !slices.Equal(g.Sold(), f.Sold()) || !slices.EqualFunc(g.Holds(), f.Holds(), sameHold) {
		t.Fatalf("%v is %v, was %v", b, g.Holds(), f.Holds())
	}
	for _, h := range f.Holds() {
		if !slices.Equal(g.Labels(h.Owner), f.Labels(h.Owner)) {
			t.Fatalf("%v: owner %d has %q, had %q", b, h.Owner, g.Labels(h.Owner), f.Labels(h.Owner))
		}
	}
	return g
}

// autoOfAll tells all holds without seats their seats, on a flight of their own: none lacks any.
func autoOfAll(t *testing.T, f *flight.Flight, r *rand.Rand) {
	t.Helper()
	g := inverse(t, f)
	holds := g.Holds()
	r.Shuffle(len(holds), func(i, j int) { holds[i], holds[j] = holds[j], holds[i] })
	for _, h := range holds {
		labels, e := g.Auto(h.Owner)
		switch {
		case len(h.Seats) > 0 && (e != api.ErrOrder || len(labels) > 0):
			t.Fatalf("%v has seats: %q, error %d", h, labels, e)
		case len(h.Seats) == 0 && (e != api.OK || len(labels) != h.Many || !slices.Equal(labels, g.Labels(h.Owner))):
			t.Fatalf("%v has no seats: %q, error %d", h, labels, e)
		}
	}
}

// takeAndGive takes a hold and gives it back, with seats or without.
func takeAndGive(t *testing.T, f *flight.Flight, owner, class int, auto bool) {
	t.Helper()
	left, b := f.Left(), f.Encode()
	for _, many := range []int{1, left[class]/2 + 1, left[class], left[class] + 1} {
		e := f.Take(owner, class, many)
		if many > left[class] || many == 0 {
			if e == api.OK {
				t.Fatalf("%d of the %d that are left of class %d: no error", many, left[class], class)
			}
			continue
		}
		if e != api.OK || f.Left()[class] != left[class]-many {
			t.Fatalf("%d of the %d that are left of class %d: error %d, %d are left", many, left[class], class, e, f.Left()[class])
		}
		if auto {
			f.Auto(owner)
		}
		if e := f.Give(owner); e != api.OK || !bytes.Equal(f.Encode(), b) {
			t.Fatalf("%v, was %v, error %d", f.Encode(), b, e)
		}
	}
}

func TestTheorem(t *testing.T) {
	r := rand.New(rand.NewSource(3))
	done, refused := 0, 0
	for range 400 {
		x, owners := drawn(t, r)
		f, seats, limits := x.f, len(x.p.cabin), x.f.Left()
		none := f.Encode()
		for range 60 {
			owner, class, many, label := owners[r.Intn(len(owners))], r.Intn(len(limits)), 1+r.Intn(1+seats/3), x.label(r)
			b := f.Encode()
			_, auto := f.Auto(owner + r.Intn(2))
			e := []func() api.Errno{
				func() api.Errno { return f.Take(owner, class, many) },
				func() api.Errno { return f.Give(owner) },
				func() api.Errno { return f.Seat(owner, label) },
				func() api.Errno { return f.Seat(owner, label) },
				func() api.Errno { return f.Unseat(owner, label) },
			}[r.Intn(5)]()
			switch {
			case e == api.OK || auto == api.OK:
				done++
			case !bytes.Equal(f.Encode(), b):
				t.Fatalf("with the errors %d and %d, %v came out of %v", auto, e, f.Encode(), b)
			default:
				refused++
			}
			sound(t, f, seats, limits)
			if r.Intn(4) == 0 {
				f = inverse(t, f)
				autoOfAll(t, f, r)
				takeAndGive(t, f, greatest/2, class, r.Intn(2) == 0)
				sound(t, f, seats, limits)
			}
		}
		for _, h := range f.Holds() {
			f.Give(h.Owner)
		}
		if !bytes.Equal(f.Encode(), none) {
			t.Fatalf("with all holds given back, %v, was %v", f.Encode(), none)
		}
	}
	if min(done, refused) < 3000 {
		t.Error(done, refused)
	}
}
