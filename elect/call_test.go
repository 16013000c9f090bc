package elect

import (
	"fmt"
	"slices"
	"testing"

	"jetway/api"
)

// view is what a node tells of itself.
type view struct {
	hard         api.Hard
	role, leader int
}

func look(n *Node) view { return view{n.Hard(), n.Role(), n.Leader()} }

// told is what a call returned.
type told struct {
	ballots []api.Ballot
	yes     bool      // of Heard
	code    api.Errno // of Join
}

func (a told) same(b told) bool {
	return slices.Equal(a.ballots, b.ballots) && a.yes == b.yes && a.code == b.code
}

// call is one of the methods with its arguments, for a node and for the second reading of it.
type call struct {
	what  string
	node  func(n *Node) told
	plain func(p plain) (plain, told)
}

func tickAt(draw, last, lastTerm int) call {
	return call{
		fmt.Sprintf("Tick(%d, %d, %d)", draw, last, lastTerm),
		func(n *Node) told { return told{ballots: n.Tick(draw, last, lastTerm)} },
		func(p plain) (plain, told) {
			q, l := p.tick(draw, last, lastTerm)
			return q, told{ballots: l}
		},
	}
}

func takeAt(b api.Ballot, last, lastTerm int) call {
	return call{
		fmt.Sprintf("Take(%+v, %d, %d)", b, last, lastTerm),
		func(n *Node) told { return told{ballots: n.Take(b, last, lastTerm)} },
		func(p plain) (plain, told) {
			q, l := p.take(b, last, lastTerm)
			return q, told{ballots: l}
		},
	}
}

func heard(from, term int) call {
	return call{
		fmt.Sprintf("Heard(%d, %d)", from, term),
		func(n *Node) told { return told{yes: n.Heard(from, term)} },
		func(p plain) (plain, told) {
			q, yes := p.heard(from, term)
			return q, told{yes: yes}
		},
	}
}

func join(g api.Group) call {
	return call{
		fmt.Sprintf("Join(%v)", g),
		func(n *Node) told { return told{code: n.Join(g)} },
		func(p plain) (plain, told) {
			q, e := p.join(g)
			return q, told{code: e}
		},
	}
}

// tick and take are for a node whose log is empty.
func tick(draw int) call { return tickAt(draw, 0, 0) }

func take(b api.Ballot) call { return takeAt(b, 0, 0) }

func ticks(n int) []call { return slices.Repeat([]call{tick(0)}, n) }

// ballot is one to node 1, of a node whose log is empty.
func ballot(kind, from, term int, yes bool) api.Ballot {
	return api.Ballot{Kind: kind, From: from, To: 1, Term: term, Yes: yes}
}

func yesOf(kind, from, term int) call { return take(ballot(kind, from, term, true)) }

func noOf(kind, from, term int) call { return take(ballot(kind, from, term, false)) }

// say is an answer of node 1.
func say(kind, to, term int, yes bool) []api.Ballot {
	return []api.Ballot{{Kind: kind, From: 1, To: to, Term: term, Yes: yes}}
}

// asks are what node id sends to these nodes.
func asks(id, kind, term, last, lastTerm int, to ...int) []api.Ballot {
	var l []api.Ballot
	for _, n := range to {
		l = append(l, api.Ballot{Kind: kind, From: id, To: n, Term: term, Index: last, LogTerm: lastTerm})
	}
	return l
}

// history is how a node came to be as it is: what New was given, and the calls since. So the same node can be made twice.
type history struct {
	id       int
	hard     api.Hard
	group    api.Group
	patience int
	calls    []call
}

func (h history) then(l ...call) history {
	h.calls = slices.Concat(h.calls, l)
	return h
}

func (h history) String() string {
	s := fmt.Sprintf("New(%d, %v, %v, %d)", h.id, h.hard, h.group, h.patience)
	for _, c := range h.calls {
		s += ", " + c.what
	}
	return s
}

func (h history) node(t *testing.T) *Node {
	t.Helper()
	n, e := New(h.id, h.hard, h.group, h.patience)
	if e != api.OK {
		t.Fatalf("%v: error %d", h, e)
	}
	for _, c := range h.calls {
		c.node(n)
	}
	return n
}

func (h history) plain(t *testing.T) plain {
	t.Helper()
	p, e := plainNew(h.id, h.hard, h.group, h.patience)
	if e != api.OK {
		t.Fatalf("%v: error %d", h, e)
	}
	for _, c := range h.calls {
		p, _ = c.plain(p)
	}
	return p
}

// behind is a history that goes on; it is only put together where it is told.
type behind struct {
	history
	more []call
}

func (b behind) String() string { return b.then(b.more...).String() }

// wantCall does a call on a node, and checks what it returns, and what the node tells then, against the second reading.
func wantCall(t *testing.T, h fmt.Stringer, n *Node, p plain, c call) plain {
	t.Helper()
	q, asked := c.plain(p)
	if got := c.node(n); !got.same(asked) {
		t.Fatalf("%v: %s: %+v, want %+v", h, c.what, got, asked)
	}
	if look(n) != q.view() {
		t.Fatalf("%v: %s: the node is %+v, want %+v", h, c.what, look(n), q.view())
	}
	return q
}

// wantLike checks the node of a history against the second reading, now and in any future.
func wantLike(t *testing.T, h history) {
	t.Helper()
	wantFutures(t, h, h.plain(t))
}

// wantFutures checks that the node of a history does what p does from now on.
func wantFutures(t *testing.T, h history, p plain) {
	t.Helper()
	if got := look(h.node(t)); got != p.view() {
		t.Fatalf("%v: the node is %+v, want %+v", h, got, p.view())
	}
	for _, f := range futures(p) {
		n, q := h.node(t), p
		for i, c := range f {
			q = wantCall(t, behind{h, f[:i]}, n, q, c)
		}
	}
}

// futures are scripts that bring to light what a node does not tell by itself: how long it has waited, and will wait, who is in its group, and who said yes and no.
func futures(p plain) [][]call {
	var all [][]call
	other := p.id%15 + 1
	var waiting []call
	for range min(2*p.patience+1, 40) {
		// The Pre tells whether it has waited for its patience, of a term that it may be of.
		waiting = append(waiting, takeAt(api.Ballot{Kind: api.Pre, From: other, To: p.id, Term: top}, 0, 0), tickAt(1, 4, 2))
	}
	all = append(all, waiting)
	// A Leader's ticks come to light when it is one no more.
	down := takeAt(api.Ballot{Kind: api.Say, From: other, To: p.id, Term: p.term + 1}, 0, 0)
	all = append(all, append([]call{down}, waiting...))
	for first := range 15 {
		all = append(all, answers(p, api.PreSay, p.term+1, true, first), answers(p, api.Say, p.term, true, first))
		if p.role != api.Hopeful && p.role != api.Candidate {
			break
		}
		all = append(all, answers(p, api.PreSay, p.term, false, first), answers(p, api.Say, p.term, false, first))
	}
	for _, from := range []int{other, other%15 + 1} {
		all = append(all, []call{takeAt(api.Ballot{Kind: api.Ask, From: from, To: p.id, Term: p.term}, 0, 0), tickAt(0, 0, 0), heard(from, p.term), tickAt(0, 0, 0)})
	}
	return all
}

// answers are the same answer of all nodes, one by one, from behind one of them on.
func answers(p plain, kind, term int, yes bool, first int) []call {
	var l []call
	for i := range 15 {
		from := (first+i)%15 + 1
		l = append(l, takeAt(api.Ballot{Kind: kind, From: from, To: p.id, Term: term, Yes: yes}, 4, 2))
	}
	return l
}

// scene is a call on the node of a history, with what the document says of it in so many words.
type scene struct {
	what    string
	history history
	call    call
	told    told
	view    view
}

func wantScenes(t *testing.T, l []scene) {
	t.Helper()
	for _, s := range l {
		n := s.history.node(t)
		if got := s.call.node(n); !got.same(s.told) {
			t.Errorf("%s: %v: %s: %+v, want %+v", s.what, s.history, s.call.what, got, s.told)
		}
		if got := look(n); got != s.view {
			t.Errorf("%s: %v: %s: the node is %+v, want %+v", s.what, s.history, s.call.what, got, s.view)
		}
		wantLike(t, s.history.then(s.call))
	}
}

// wantNothing checks that a call returns nothing, and changes nothing that any later call tells.
func wantNothing(t *testing.T, h history, c call) {
	t.Helper()
	n, p := h.node(t), h.plain(t)
	if got := c.node(n); !got.same(told{}) {
		t.Fatalf("%v: %s: %+v", h, c.what, got)
	}
	wantFutures(t, h.then(c), p)
}

// upTo are the nodes from 1 to n.
func upTo(n int) []int {
	var l []int
	for i := range n {
		l = append(l, i+1)
	}
	return l
}

func voters(l ...int) api.Group { return api.Group{Voters: l} }

// The roles of node 1 in these groups, at a term from 1 on, with patience 2.

func fresh(g api.Group, term int) history {
	return history{id: 1, hard: api.Hard{Term: term}, group: g, patience: 2}
}

func voted(g api.Group, term, vote int) history {
	return history{id: 1, hard: api.Hard{Term: term, Vote: vote}, group: g, patience: 2}
}

func following(g api.Group, term int) history { return fresh(g, term).then(heard(2, term)) }

func hopeful(g api.Group, term int) history { return fresh(g, term).then(ticks(2)...) }

// candidate is elected for it by the first voters.
func candidate(g api.Group, term int) history {
	h := hopeful(g, term-1)
	for _, v := range g.Voters[1 : len(g.Voters)/2+1] {
		h = h.then(yesOf(api.PreSay, v, term))
	}
	return h
}

func leading(g api.Group, term int) history {
	h := candidate(g, term)
	for _, v := range g.Voters[1 : len(g.Voters)/2+1] {
		h = h.then(yesOf(api.Say, v, term))
	}
	return h
}
