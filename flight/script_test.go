package flight_test

import (
	"math/rand"
	"testing"

	"jetway/api"
)

// Drawn sequences of all calls, each of them held against the second reading, with Encode and Decode between them.

var someLayouts = []api.Layout{layout(1, 1), layout(1, 2, 2), layout(2, 3, 3), layout(4, 1, 2), layout(1, 10), layout(3, 3, 4, 3), layout(11, 2, 1, 2), layout(12, 1, 1, 1, 1)}

// drawn is a new flight, with owners for it.
func drawn(t *testing.T, r *rand.Rand) (*pair, []int) {
	t.Helper()
	parts := make([]float64, 1+r.Intn(8))
	for i := range parts {
		parts[i] = []float64{1, 0.9, r.Float64(), 1 - float64(i)/8}[r.Intn(4)]
	}
	x := opened(t, 1+r.Intn(9999), someLayouts[r.Intn(len(someLayouts))], parts...)
	return x, []int{0, 1, 2, 255, 256, 1 + r.Intn(greatest), greatest - 1, greatest, greatest + 1}
}

// label is one of a seat, seldom of none.
func (x *pair) label(r *rand.Rand) string {
	if r.Intn(20) == 0 {
		return noLabels[r.Intn(len(noLabels))]
	}
	return x.p.cabin[r.Intn(len(x.p.cabin))].label
}

// step calls something, and tells what was called, and the error.
func (x *pair) step(r *rand.Rand, owner int) (string, api.Errno) {
	x.t.Helper()
	what, label := []string{"Take", "Take", "Give", "Seat", "Seat", "Seat", "Unseat", "Auto"}[r.Intn(8)], x.label(r)
	var got, want api.Errno
	switch what {
	case "Take":
		class, many := r.Intn(len(x.p.limits)+1), []int{0, 1, 1 + r.Intn(4), 1 + r.Intn(len(x.p.cabin)), 10001}[r.Intn(5)]
		got, want = x.f.Take(owner, class, many), x.p.take(owner, class, many)
	case "Give":
		got, want = x.f.Give(owner), x.p.give(owner)
	case "Seat":
		got, want = x.f.Seat(owner, label), x.p.seat(owner, label)
	case "Unseat":
		if l := x.p.labels(owner); len(l) > 0 && r.Intn(2) == 0 {
			label = l[r.Intn(len(l))]
		}
		got, want = x.f.Unseat(owner, label), x.p.unseat(owner, label)
	case "Auto":
		_, e := x.autoOf(owner)
		return what, e
	}
	x.is(what, got, want, want)
	return what, got
}

type answer struct {
	what string
	e    api.Errno
}

func TestDrawnSequences(t *testing.T) {
	r := rand.New(rand.NewSource(2))
	seen := map[answer]int{}
	for range 1000 {
		x, owners := drawn(t, r)
		for range 60 {
			what, e := x.step(r, owners[r.Intn(len(owners))])
			seen[answer{what, e}]++
			if r.Intn(10) == 0 {
				x = x.again()
			}
		}
	}
	for what, errors := range map[string][]api.Errno{
		"Take":   {api.OK, api.ErrArg, api.ErrFull, api.ErrOrder},
		"Give":   {api.OK, api.ErrNone},
		"Seat":   {api.OK, api.ErrNone, api.ErrFull, api.ErrOrder},
		"Unseat": {api.OK, api.ErrNone},
		"Auto":   {api.OK, api.ErrNone, api.ErrOrder},
	} {
		for _, e := range errors {
			if seen[answer{what, e}] < 100 {
				t.Errorf("%s, error %d: only %d times", what, e, seen[answer{what, e}])
			}
		}
	}
}
