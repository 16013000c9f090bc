package progress

import "jetway/api"

// validIndex leaves out MaxIndex, because the next index has to be a valid one too.
func validIndex(i int) bool { return 0 <= i && i < api.MaxIndex }

// enter begins a state, and forgets what belongs to the one before.
func (p *Peer) enter(state int) {
	p.state, p.waiting, p.flying, p.snap = state, false, nil, 0
}

func (p *Peer) probe(next int) {
	p.enter(Probe)
	p.next = next
}

// upTo is how many of the messages in flight have nothing above the index i.
func (p *Peer) upTo(i int) int {
	n := 0
	for n < len(p.flying) && p.flying[n] <= i {
		n++
	}
	return n
}

// land ends the flight of the first n messages. The slice has no room left behind it, so that the next message goes into new memory, and nothing is kept of those that have landed.
func (p *Peer) land(n int) {
	most := len(p.flying)
	p.flying = p.flying[n:most:most]
}
