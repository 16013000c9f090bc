package flight_test

import (
	"testing"

	"jetway/api"
)

// All flights of a small cabin: those that calls come to, and those that the chapter's words allow, are the same.

var (
	smallLayout = layout(1, 2, 1)
	smallParts  = []float64{1, 0.7}
	smallLimits = []int{3, 2}
	smallLabels = []string{"1A", "1B", "1C", "1D"} // there is no 1D
)

const smallOwners = 3

// allCodes are those of all valid flights with these limits and owners: all holds, and all owners of all seats, of which the wrong ones are left out.
func allCodes() map[string]bool {
	all := map[string]bool{}
	kinds := 1 + 2*3 // no hold, or one of two classes and up to three seats
	for n := range kinds * kinds * kinds {
		for m := range (1 + smallOwners) * (1 + smallOwners) * (1 + smallOwners) {
			c := code{1, 1, smallLayout.Groups, smallLimits, smallHolds(n, m, kinds)}
			if _, right := plainOf(c); right && len(c.seated()) == seatedOf(m) {
				all[c.bytes()] = true
			}
		}
	}
	return all
}

// smallHolds are those of the n-th choice of holds, with the m-th choice of the seats' owners.
func smallHolds(n, m, kinds int) []api.Hold {
	var holds []api.Hold
	for owner := 1; owner <= smallOwners; owner++ {
		kind := n % kinds
		n /= kinds
		if kind == 0 {
			continue
		}
		h := api.Hold{Owner: owner, Class: (kind - 1) % 2, Many: 1 + (kind-1)/2}
		for place, rest := 0, m; place < 3; place++ {
			if rest%(1+smallOwners) == owner {
				h.Seats = append(h.Seats, place)
			}
			rest /= 1 + smallOwners
		}
		holds = append(holds, h)
	}
	return holds
}

// seated are the seats that a code's holds have, and seatedOf how many the m-th choice gave out.
func (c code) seated() []int {
	var l []int
	for _, h := range c.holds {
		l = append(l, h.Seats...)
	}
	return l
}

func seatedOf(m int) int {
	n := 0
	for ; m > 0; m /= 1 + smallOwners {
		if m%(1+smallOwners) > 0 {
			n++
		}
	}
	return n
}

// steps are all calls that may change a small flight, each on a flight of its own.
func steps(t *testing.T, b string) []*pair {
	var l []*pair
	try := func(call func(x *pair)) {
		x := decodedBytes(t, b)
		call(x)
		l = append(l, x)
	}
	for owner := range smallOwners + 1 {
		for class := -1; class <= len(smallLimits); class++ {
			for many := range 5 {
				try(func(x *pair) {
					e := x.p.take(owner, class, many)
					x.is("Take", x.f.Take(owner, class, many), e, e)
				})
			}
		}
		try(func(x *pair) {
			e := x.p.give(owner)
			x.is("Give", x.f.Give(owner), e, e)
		})
		for _, label := range smallLabels {
			try(func(x *pair) {
				e := x.p.seat(owner, label)
				x.is("Seat", x.f.Seat(owner, label), e, e)
			})
			try(func(x *pair) {
				e := x.p.unseat(owner, label)
				x.is("Unseat", x.f.Unseat(owner, label), e, e)
			})
		}
		try(func(x *pair) { x.autoOf(owner) })
	}
	return l
}

func TestAllSmallFlights(t *testing.T) {
	start := opened(t, 1, smallLayout, smallParts...)
	start.left(smallLimits...)
	come := map[string]bool{string(start.f.Encode()): true}
	work := []string{string(start.f.Encode())}
	for len(work) > 0 {
		b := work[0]
		work = work[1:]
		for _, x := range steps(t, b) {
			if c := string(x.f.Encode()); !come[c] {
				come[c] = true
				work = append(work, c)
			}
		}
	}
	all := allCodes()
	for c := range all {
		if !come[c] {
			t.Errorf("no calls come to %v", []byte(c))
		}
	}
	if len(all) != len(come) || len(all) < 100 {
		t.Errorf("%d flights are valid, calls come to %d", len(all), len(come))
	}
}
