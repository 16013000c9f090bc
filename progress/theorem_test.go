package progress

import (
	"math"
	"math/rand"
	"slices"
	"testing"
)

// P11.6, of peers by themselves: nothing here asks the second reading.

// inFlight are the last indices in flight, as acknowledgements bring them to light: one is in flight when there are fewer behind it than ahead of it.
func inFlight(t *testing.T, h history) []int {
	t.Helper()
	p := h.peer(t)
	if p.Flying() == 0 {
		return nil
	}
	var l []int
	before := p.Flying()
	for _, i := range askedFor(h, p) {
		p := h.peer(t)
		p.Acked(i)
		for range before - p.Flying() {
			l = append(l, i)
		}
		before = p.Flying()
	}
	return l
}

// askedFor are indices from the match on, with all that may be in flight among them: what no Sent had as its last index is not.
func askedFor(h history, p *Peer) []int {
	l := []int{p.Match(), p.Next() - 1}
	for _, c := range h.calls {
		if c.name == "Sent" && p.Match() < c.a && c.a < p.Next() {
			l = append(l, c.a-1, c.a)
		}
	}
	slices.Sort(l)
	return slices.Compact(l)
}

// holds checks all that the theorem says of the peer of a history, but that its match never decreases.
func holds(t *testing.T, h history) {
	t.Helper()
	p := h.peer(t)
	if p.Match() >= p.Next() || p.Flying() > h.window || p.Flying() < 0 {
		t.Fatalf("%v: the peer is %+v", h, look(p))
	}
	before := p.Match()
	l := inFlight(t, h)
	for _, last := range l {
		if last <= before || last >= p.Next() {
			t.Fatalf("%v: the peer is %+v, in flight are %v", h, look(p), l)
		}
		before = last
	}
	if len(l) != p.Flying() {
		t.Fatalf("%v: the peer is %+v, below its next index are only %v in flight", h, look(p), l)
	}
}

// wantStep checks the theorem when a call is added to a history that it holds for.
func wantStep(t *testing.T, h history, c call) history {
	t.Helper()
	match := h.peer(t).Match()
	h = h.then(c)
	if got := h.peer(t).Match(); got < match {
		t.Fatalf("%v: the match was %d, and is %d", h, match, got)
	}
	holds(t, h)
	return h
}

// anyCall draws a call with numbers at the places that the peer tells, at those that it was given, and far from them.
func (s script) anyCall(h history, p *Peer) call {
	places := []int{p.Match(), p.Next() - 1, p.Next(), p.Next() + 1, p.Next() + 2}
	if len(h.calls) > 0 {
		places = append(places, h.calls[s.Intn(len(h.calls))].a)
	}
	if s.Intn(20) == 0 {
		places = []int{math.MinInt, -1, 0, top - 1, top, top + 1, math.MaxInt}
	}
	some := func() int { return places[s.Intn(len(places))] }
	switch s.Intn(20) {
	case 0:
		return refused(some(), some())
	case 1:
		return install(some())
	case 2:
		return over(s.Intn(2) == 0)
	case 3, 4, 5:
		return beat()
	case 6, 7, 8, 9:
		return acked(some())
	}
	return sent(some())
}

func TestTheoremAlongScripts(t *testing.T) {
	full, landed := 0, 0
	for seed := range int64(1500) {
		s := script{rand.New(rand.NewSource(seed + 100000))}
		h := s.start()
		for range 50 {
			p := h.peer(t)
			before := p.Flying()
			h = wantStep(t, h, s.anyCall(h, p))
			p = h.peer(t)
			if p.Flying() == h.window {
				full++
			}
			if p.State() == Stream && p.Flying() < before {
				landed++
			}
		}
	}
	if full < 3000 || landed < 1500 {
		t.Errorf("the window was full %d times, and messages landed %d times", full, landed)
	}
}

// The theorem holds after all scripts of few calls on a peer that has just begun to stream.
func TestTheoremOfAllShortScripts(t *testing.T) {
	letters := []call{
		beat(), over(true), over(false), sent(2), sent(3), sent(4), sent(6), acked(1), acked(2), acked(3), acked(5),
		install(1), install(3), install(5), refused(1, 0), refused(2, 2), refused(3, 1), refused(5, 7),
	}
	var walk func(h history, left int)
	walk = func(h history, left int) {
		if left == 0 {
			return
		}
		for _, c := range letters {
			walk(wantStep(t, h, c), left-1)
		}
	}
	for _, window := range []int{1, 2, 3} {
		walk(start(2, window).then(acked(1)), 4)
	}
	walk(start(3, 2), 4)
}
