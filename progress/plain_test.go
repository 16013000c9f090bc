package progress

import (
	"slices"

	"jetway/api"
)

// This file follows the document's words by other means than the package does: a peer is a value that is made anew by each call, and what is in flight stands in an array, sorted after each change.

const top = 1 << 40 // the greatest index

type plain struct {
	state, match, next, window int
	waiting                    bool
	flight                     [64]int // none is 0, and they stand behind the zeros
	snap                       int
}

func within(low, n, high int) bool { return low <= n && n <= high }

func plainNew(next, window int) (plain, api.Errno) {
	if !within(1, next, top) || !within(1, window, 64) {
		return plain{}, api.ErrArg
	}
	return plain{next: next, window: window}, api.OK
}

// inFlight are the messages in flight.
func (p plain) inFlight() []int {
	var l []int
	for _, last := range p.flight {
		if last != 0 {
			l = append(l, last)
		}
	}
	return l
}

func (p plain) may() bool {
	return p.state == Probe && !p.waiting || p.state == Stream && len(p.inFlight()) < p.window
}

func (p plain) view() view {
	return view{state: p.state, match: p.match, next: p.next, flying: len(p.inFlight()), may: p.may()}
}

// probesFrom are the words "it probes from n".
func (p plain) probesFrom(n int) plain {
	return plain{state: Probe, match: p.match, next: n, window: p.window}
}

func (p plain) sent(last int) (plain, api.Errno) {
	if !p.may() || !within(p.next-1, last, top-1) {
		return p, api.ErrOrder
	}
	p.waiting = p.state == Probe
	if p.state == Stream && last != p.next-1 {
		p.flight[0] = last
		slices.Sort(p.flight[:])
		p.next = last + 1
	}
	return p, api.OK
}

func (p plain) acked(i int) (plain, bool) {
	if !within(0, i, top-1) {
		return p, false
	}
	old := p.match
	if i > p.match {
		p.match = i
	}
	if p.next <= p.match {
		p.next = p.match + 1
	}
	switch {
	case p.state == Probe:
		p.state, p.waiting = Stream, false
	case p.state == Stream:
		for n, last := range p.flight {
			if last <= i {
				p.flight[n] = 0
			}
		}
		slices.Sort(p.flight[:])
	case i >= p.snap:
		p = p.probesFrom(p.next)
	}
	return p, p.match != old
}

func (p plain) refused(at, hint int) (plain, bool) {
	if p.state == Snap || p.state == Probe && at != p.next-1 || p.state == Stream && at <= p.match {
		return p, false
	}
	n := p.match + 1
	if p.state == Probe {
		lesser := 1 // hint + 1
		if within(0, hint, top) {
			lesser = hint + 1
		}
		if at < lesser {
			lesser = at
		}
		if lesser > n {
			n = lesser
		}
	}
	return p.probesFrom(n), true
}

func (p plain) beat() plain {
	p.waiting = false
	if l := p.inFlight(); p.state == Stream && len(l) == p.window {
		p.flight[slices.Index(p.flight[:], l[0])] = 0
	}
	return p
}

func (p plain) install(i int) (plain, api.Errno) {
	if !within(0, i, top-1) {
		return p, api.ErrArg
	}
	return plain{state: Snap, match: p.match, next: p.next, window: p.window, snap: i}, api.OK
}

func (p plain) over(ok bool) (plain, bool) {
	switch {
	case p.state != Snap:
		return p, false
	case ok && p.snap > p.match:
		return p.probesFrom(p.snap + 1), true
	}
	return p.probesFrom(p.match + 1), true
}
