package flight_test

import (
	"math"
	"slices"
	"testing"

	"jetway/api"
	"jetway/flight"
)

const greatest = 28629151 // the number of an owner

// far are numbers that are far from all bounds, or stand for a bound of another thing.
var far = []int{math.MinInt, math.MinInt + 1, -1 << 32, -10001, -10000, -600, -1, 601, 9999, 10000, 10001, greatest + 1, 1 << 31, 1 << 32, 1<<32 + 1, 1 << 62, math.MaxInt - 1, math.MaxInt}

func layout(rows int, groups ...int) api.Layout {
	return api.Layout{Rows: rows, Groups: groups}
}

// A pair is a flight and its second reading, held against each other by each call.
type pair struct {
	t *testing.T
	f *flight.Flight
	p *plain
}

func opened(t *testing.T, number int, l api.Layout, parts ...float64) *pair {
	t.Helper()
	f, e := flight.New(number, l, parts)
	p, want := plainNew(number, l, parts)
	if e != want || (e == api.OK) != (f != nil) {
		t.Fatalf("flight %d, %v, parts %v: error %d, want %d", number, l, parts, e, want)
	}
	if e != api.OK {
		return nil
	}
	x := &pair{t, f, p}
	x.same()
	return x
}

// small is the chapter's flight: the seats 1A to 1D, and limits 4 2.
func small(t *testing.T) *pair {
	t.Helper()
	return opened(t, 7, layout(1, 2, 2), 1, 0.5)
}

func sameHold(a, b api.Hold) bool {
	return a.Owner == b.Owner && a.Class == b.Class && a.Many == b.Many && slices.Equal(a.Seats, b.Seats)
}

// same holds all that a flight tells against the second reading.
func (x *pair) same() {
	x.t.Helper()
	f, p := x.f, x.p
	if got, want := f.Holds(), p.holds(); !slices.EqualFunc(got, want, sameHold) {
		x.t.Fatalf("the holds are %v, want %v", got, want)
	}
	if got, want := f.Sold(), p.sold(); f.Number() != p.number || !slices.Equal(got, want) {
		x.t.Fatalf("flight %d, want %d, sales %v, want %v", f.Number(), p.number, got, want)
	}
	if got, want := f.Left(), p.left(); !slices.Equal(got, want) {
		x.t.Fatalf("%v are left, want %v", got, want)
	}
	owners := []int{0, 1, greatest}
	for _, h := range p.taken {
		owners = append(owners, h.owner)
	}
	for _, owner := range owners {
		if got, want := f.Labels(owner), p.labels(owner); !slices.Equal(got, want) {
			x.t.Fatalf("owner %d has %q, want %q", owner, got, want)
		}
	}
	if got, want := f.Encode(), p.code().bytes(); string(got) != want {
		x.t.Fatalf("the code is %v, want %v", got, []byte(want))
	}
}

// is holds a call's error against the second reading's and against the asked one, and all the rest of the two.
func (x *pair) is(what string, got, plain, asked api.Errno) {
	x.t.Helper()
	if got != plain || got != asked {
		x.t.Fatalf("%s: error %d, want %d; the second reading says %d", what, got, asked, plain)
	}
	x.same()
}

func (x *pair) take(owner, class, many int, asked api.Errno) {
	x.t.Helper()
	x.is("Take", x.f.Take(owner, class, many), x.p.take(owner, class, many), asked)
}

func (x *pair) give(owner int, asked api.Errno) {
	x.t.Helper()
	x.is("Give", x.f.Give(owner), x.p.give(owner), asked)
}

func (x *pair) seat(owner int, label string, asked api.Errno) {
	x.t.Helper()
	x.is("Seat", x.f.Seat(owner, label), x.p.seat(owner, label), asked)
}

func (x *pair) unseat(owner int, label string, asked api.Errno) {
	x.t.Helper()
	x.is("Unseat", x.f.Unseat(owner, label), x.p.unseat(owner, label), asked)
}

// autoOf is what both readings say.
func (x *pair) autoOf(owner int) ([]string, api.Errno) {
	x.t.Helper()
	got, e := x.f.Auto(owner)
	want, asked := x.p.auto(owner)
	if !slices.Equal(got, want) {
		x.t.Fatalf("Auto of %d: %q, want %q", owner, got, want)
	}
	x.is("Auto", e, asked, asked)
	return got, e
}

func (x *pair) auto(owner int, asked api.Errno, labels ...string) {
	x.t.Helper()
	if got, e := x.autoOf(owner); !slices.Equal(got, labels) || e != asked {
		x.t.Fatalf("Auto of %d: %q and %d, want %q and %d", owner, got, e, labels, asked)
	}
}

// left and has are what the flight must have come to.
func (x *pair) left(want ...int) {
	x.t.Helper()
	if got := x.f.Left(); !slices.Equal(got, want) {
		x.t.Fatalf("%v are left, want %v", got, want)
	}
}

func (x *pair) has(owner int, want ...string) {
	x.t.Helper()
	if got := x.f.Labels(owner); !slices.Equal(got, want) {
		x.t.Fatalf("owner %d has %q, want %q", owner, got, want)
	}
}
