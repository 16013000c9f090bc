package raft

import (
	"jetway/api"
	"jetway/progress"
)

// post puts a message to what is new, as it is; send is for one of its own term.
func (n *Node) post(m api.Msg) { n.fresh.Msgs = append(n.fresh.Msgs, m) }

func (n *Node) send(m api.Msg) {
	m.From, m.Term = n.id, n.Hard().Term
	n.post(m)
}

// beatMembers is what a Leader does each tick.
func (n *Node) beatMembers() {
	for _, to := range n.members() {
		p := n.peers[to]
		p.Beat()
		// A snapshot may be lost, so that what the member needs is looked for anew.
		p.Over(false)
		n.sendBeat(to)
		n.sendEntries(to)
	}
}

func (n *Node) sendBeats() {
	for _, to := range n.members() {
		n.sendBeat(to)
	}
}

// sendBeat names no more as committed than the member has for certain: what else is in its log may be another leader's.
func (n *Node) sendBeat(to int) {
	n.send(api.Msg{Kind: api.Beat, To: to, Commit: min(n.peers[to].Match(), n.log.Committed()), Round: n.round})
}

func (n *Node) sendAll() {
	for _, to := range n.members() {
		n.sendEntries(to)
	}
}

// sendEntries sends as many messages as the peer may have in flight.
func (n *Node) sendEntries(to int) {
	p := n.peers[to]
	for p.May() && n.sendSome(to, p) {
	}
}

// sendSome sends one message, and tells whether another one may follow.
func (n *Node) sendSome(to int, p *progress.Peer) bool {
	i := p.Next() - 1
	if i > n.log.Last() {
		return false
	}
	term, ok := n.log.Term(i)
	if !ok {
		n.sendSnap(to, p)
		return false
	}
	l := n.log.Get(i+1, mostEntries)
	if len(l) == 0 && p.State() == progress.Stream {
		return false
	}
	n.send(api.Msg{Kind: api.Append, To: to, Index: i, LogTerm: term, Commit: n.log.Committed(), Entries: l})
	// The peer counts no index that has none behind it; such a message would be sent without end.
	return p.Sent(i+len(l)) == api.OK
}

func (n *Node) sendSnap(to int, p *progress.Peer) {
	s := copiedSnap(n.snap)
	n.send(api.Msg{Kind: api.Install, To: to, Index: s.Index, LogTerm: s.Term, Snap: s})
	p.Install(s.Index)
}
