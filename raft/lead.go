package raft

import (
	"maps"
	"slices"

	"jetway/api"
	"jetway/progress"
	"jetway/quorum"
)

const (
	mostEntries = 8 // of an Append
	mostReads   = 64
)

// leading is what a node has as Leader only. Its peers are those of all members.
type leading struct {
	peers map[int]*progress.Peer
	reads []read
	round int
}

// read is one that is pending.
type read struct {
	at    api.ReadAt
	round int
	by    []int // who supports it
}

// vote lets elections go on, and follows what comes of it.
func (n *Node) vote(by func(last, lastTerm int) []api.Ballot) {
	was := n.Role()
	lastTerm, _ := n.log.Term(n.log.Last())
	for _, b := range by(n.log.Last(), lastTerm) {
		// Its own Term: a Pre has that of the election to come.
		n.post(api.Msg{Kind: b.Kind, From: b.From, To: b.To, Term: b.Term, Index: b.Index, LogTerm: b.LogTerm, Yes: b.Yes})
	}
	if n.Role() != api.Leader {
		n.leading = leading{}
	} else if was != api.Leader {
		n.lead()
	}
}

func (n *Node) take(b api.Ballot) {
	n.vote(func(last, lastTerm int) []api.Ballot { return n.Take(b, last, lastTerm) })
}

func (n *Node) lead() {
	n.leading = leading{peers: map[int]*progress.Peer{}}
	n.meet()
	// At the end of all indices there is no room for it; it leads all the same.
	n.add(api.EntryEmpty, nil)
	n.advance()
	n.sendAll()
}

// meet makes the peers those of the members of its group.
func (n *Node) meet() {
	members := slices.Concat(n.group().Voters, n.group().Learners)
	for _, node := range members {
		if node != n.id && n.peers[node] == nil {
			n.peers[node], _ = progress.New(min(n.log.Last()+1, api.MaxIndex), n.window)
		}
	}
	maps.DeleteFunc(n.peers, func(node int, _ *progress.Peer) bool { return !slices.Contains(members, node) })
}

// members are the nodes of the peers, ascending.
func (n *Node) members() []int { return slices.Sorted(maps.Keys(n.peers)) }

// put adds an entry, and lets the members know.
func (n *Node) put(kind int, data []byte) (int, api.Errno) {
	if e := n.add(kind, data); e != api.OK {
		return 0, e
	}
	n.advance()
	n.sendAll()
	return n.log.Last(), api.OK
}

func (n *Node) add(kind int, data []byte) api.Errno {
	i := n.log.Last() + 1
	e := n.log.Add([]api.Entry{{Index: i, Term: n.Hard().Term, Kind: kind, Data: data}})
	if e == api.OK {
		n.wrote(i)
	}
	return e
}

// advance commits what a majority has. An entry of an older term is not counted: even one that a majority has may still be replaced by a later leader.
func (n *Node) advance() {
	var at [api.MaxNodes + 1]int
	at[n.id] = n.log.Last()
	for _, node := range n.members() {
		at[node] = n.peers[node].Match()
	}
	i := quorum.Middle(n.group(), at)
	term, _ := n.log.Term(i)
	if i <= n.log.Committed() || term != n.Hard().Term {
		return
	}
	n.log.Commit(i)
	n.sendBeats()
}

// settled tells whether an entry of its own term is committed. Before that, it may not know all that is.
func (n *Node) settled() bool {
	term, _ := n.log.Term(n.log.Committed())
	return term == n.Hard().Term
}

// ask makes a read pending until a majority has said that it still leads.
func (n *Node) ask(at api.ReadAt) {
	by := []int{n.id}
	if quorum.Wins(n.group(), by) {
		n.fresh.Reads = append(n.fresh.Reads, at)
		return
	}
	n.round++
	n.reads = append(n.reads, read{at, n.round, by})
	n.sendBeats()
}

// support counts an answer to the Beat of a round, and completes reads.
func (n *Node) support(from, round int) {
	var pending []read
	for _, r := range n.reads {
		if r.round <= round && !slices.Contains(r.by, from) {
			r.by = append(r.by, from)
		}
		if quorum.Wins(n.group(), r.by) {
			n.fresh.Reads = append(n.fresh.Reads, r.at)
		} else {
			pending = append(pending, r)
		}
	}
	n.reads = pending
}
