package raft_test

import (
	"slices"
	"testing"

	"jetway/api"
)

// P12.2, and becoming leader

func TestTickExample(t *testing.T) {
	x := fresh(1, voters(1), 1, 1).box(t).do(tick(0)).is(api.Hard{Term: 1, Vote: 1}, api.Leader, 1).at(1, 1)
	x.news(api.Ready{HardNew: true, Hard: api.Hard{Term: 1, Vote: 1}, From: 1})
	x.tells(get(1, 9), entriesText([]api.Entry{empty(1, 1)}))
	// P12.4, its examples.
	x.tells(propose([]byte("x")), told(2, api.OK))
	x.tells(todo(10), entriesText([]api.Entry{empty(1, 1), dataOf(2, 1, "x")}))
	x.tells(read(7), code(api.OK))
	x.news(api.Ready{From: 2, Reads: []api.ReadAt{{Token: 7, Index: 2}}})
}

func TestTickOfAFollower(t *testing.T) {
	x := start(three).box(t).do(tick(1)).news(api.Ready{})
	// Its log ends with entry 6 of term 2.
	x.do(tick(1)).is(api.Hard{Term: 4}, api.Hopeful, 0)
	x.sends(ballot(api.Pre, 1, 2, 5, 6, 2), ballot(api.Pre, 1, 3, 5, 6, 2))
	// The draw has made its limit one more.
	x.do(tick(0), tick(0)).news(api.Ready{})
	x.do(tick(0)).sends(ballot(api.Pre, 1, 2, 5, 6, 2), ballot(api.Pre, 1, 3, 5, 6, 2))
	x.do(tick(0)).news(api.Ready{})
	x.do(tick(0)).sends(ballot(api.Pre, 1, 2, 5, 6, 2), ballot(api.Pre, 1, 3, 5, 6, 2))
	// The log may end with the snapshot.
	h := start(three)
	h.entries = nil
	h.box(t).do(tick(0), tick(0)).sends(ballot(api.Pre, 1, 2, 5, 3, 1), ballot(api.Pre, 1, 3, 5, 3, 1))
}

func TestAnElection(t *testing.T) {
	self := api.Hard{Term: 5, Vote: 1}
	x := start(voters(1, 2, 3, 9)).box(t).do(tick(0), tick(0), out())
	x.do(step(yes(api.PreSay, 3, 1, 5, 0))).news(api.Ready{})
	x.do(step(yes(api.PreSay, 9, 1, 5, 0))).is(self, api.Candidate, 0)
	x.news(api.Ready{HardNew: true, Hard: self, Msgs: []api.Msg{ballot(api.Ask, 1, 2, 5, 6, 2), ballot(api.Ask, 1, 3, 5, 6, 2), ballot(api.Ask, 1, 9, 5, 6, 2)}})
	x.do(step(yes(api.Say, 2, 1, 5, 0))).news(api.Ready{})
	x.do(step(yes(api.Say, 3, 1, 5, 0))).is(self, api.Leader, 1).at(7, 3)
	e := empty(7, 5)
	x.news(api.Ready{From: 7, Msgs: []api.Msg{appendOf(1, 2, 5, 6, 2, 3, e), appendOf(1, 3, 5, 6, 2, 3, e), appendOf(1, 9, 5, 6, 2, 3, e)}})
	x.tells(get(7, 1), entriesText([]api.Entry{e}))
	// Another one who votes for it changes nothing.
	x.do(step(yes(api.Say, 9, 1, 5, 0))).news(api.Ready{}).at(7, 3)
}

// A leader with learners alone commits at once, tells them so, and then sends them the entry.
func TestTickWithLearnersAlone(t *testing.T) {
	h := api.Hard{Term: 1, Vote: 2}
	x := fresh(2, api.Group{Voters: []int{2}, Learners: []int{1, 3}}, 1, 1).box(t).do(tick(0)).is(h, api.Leader, 2).at(1, 1)
	e := empty(1, 1)
	x.news(api.Ready{HardNew: true, Hard: h, From: 1, Msgs: []api.Msg{
		beatOf(2, 1, 1, 0, 0), beatOf(2, 3, 1, 0, 0), appendOf(2, 1, 1, 0, 0, 1, e), appendOf(2, 3, 1, 0, 0, 1, e),
	}})
}

func TestTickOfWhoDoesNotVote(t *testing.T) {
	for _, g := range []api.Group{voters(2), voters(2, 3), {Voters: []int{2}, Learners: []int{1}}, {Voters: []int{2, 3}, Learners: []int{1, 4}}} {
		start(g).box(t).do(slices.Repeat([]call{tick(0)}, 20)...).news(api.Ready{}).is(api.Hard{Term: 4}, api.Follower, 0)
	}
}

func TestTickAtTheLastTerm(t *testing.T) {
	h := fresh(1, voters(1), 1, 1)
	h.hard.Term = top
	h.box(t).do(tick(0)).news(api.Ready{}).is(api.Hard{Term: top}, api.Follower, 0).at(0, 0)
	h.hard.Term = top - 1
	h.box(t).do(tick(0)).is(api.Hard{Term: top, Vote: 1}, api.Leader, 1).at(1, 1)
}

// A leader without room for an entry, or whose term is below the last entry's, leads without one of its own.
func TestLeadWithoutAnEntry(t *testing.T) {
	h := fresh(1, voters(1), 1, 1)
	h.snap.Index, h.snap.Term = top, 3
	h.hard.Term = 3
	x := h.box(t).do(tick(0)).is(api.Hard{Term: 4, Vote: 1}, api.Leader, 1).at(top, top)
	x.news(api.Ready{HardNew: true, Hard: api.Hard{Term: 4, Vote: 1}})
	x.tells(propose(nil), told(0, api.ErrArg)).tells(read(1), code(api.ErrOrder)).tells(change(api.AddLearner, 2), told(0, api.ErrOrder)).news(api.Ready{})

	h = fresh(1, voters(1), 1, 1)
	h.entries = entries(1, 7, 7)
	h.hard.Term = 3
	x = h.box(t).do(tick(0)).is(api.Hard{Term: 4, Vote: 1}, api.Leader, 1).at(2, 0)
	x.news(api.Ready{HardNew: true, Hard: api.Hard{Term: 4, Vote: 1}})
	x.tells(propose(nil), told(0, api.ErrOrder)).tells(propose(longBytes(4097)), told(0, api.ErrArg)).tells(read(1), code(api.ErrOrder)).news(api.Ready{})

	// The members get what there is.
	g := api.Group{Voters: []int{1}, Learners: []int{2}}
	h = fresh(1, g, 1, 3)
	h.snap.Index, h.hard.Term = top-1, 3
	h.entries = entries(top, 7)
	x = h.box(t).do(tick(0)).at(top, top-1)
	x.news(api.Ready{HardNew: true, Hard: api.Hard{Term: 4, Vote: 1}, Msgs: []api.Msg{appendOf(1, 2, 4, top-1, 0, top-1, entries(top, 7)...)}})
	// No peer counts the last index; to one that streams, too, it is not sent without end.
	for _, i := range []int{top - 1, top, 5} {
		x.n.Step(yes(api.AppendSay, 2, 1, 4, i))
		x.n.Tick(0)
		if r := x.n.Out(); len(r.Msgs) > 100 || x.n.Last() != top {
			t.Errorf("%d: %d messages, %s", i, len(r.Msgs), view(x.n))
		}
	}
}

// The tick of a Leader: of each member first the Beat, then the entries.

func TestTickOfALeader(t *testing.T) {
	e := empty(7, 5)
	// Both wait for an answer, and need not any more.
	x := start(three).leading().box(t).do(tick(0))
	x.sends(beatOf(1, 2, 5, 0, 0), appendOf(1, 2, 5, 6, 2, 3, e), beatOf(1, 3, 5, 0, 0), appendOf(1, 3, 5, 6, 2, 3, e))
	// Node 2 has all.
	x.do(step(yes(api.AppendSay, 2, 1, 5, 7)), out(), tick(0))
	x.sends(beatOf(1, 2, 5, 7, 0), beatOf(1, 3, 5, 0, 0), appendOf(1, 3, 5, 6, 2, 7, e))
	x.do(tick(-1), out(), tick(7)).sends(beatOf(1, 2, 5, 7, 0), beatOf(1, 3, 5, 0, 0), appendOf(1, 3, 5, 6, 2, 7, e))
	// What a Beat says is committed is what the member has, and no more.
	x.do(step(yes(api.AppendSay, 3, 1, 5, 5)), out(), tick(0))
	x.sends(beatOf(1, 2, 5, 7, 0), beatOf(1, 3, 5, 5, 0))
}

func TestTickFreesAFullWindow(t *testing.T) {
	x := settled(three, 2, 3).box(t)
	a, b, c, d := dataOf(8, 5, "a"), dataOf(9, 5, "b"), dataOf(10, 5, "c"), dataOf(11, 5, "d")
	for n, e := range []api.Entry{a, b, c, d} {
		x.tells(propose(e.Data), told(8+n, api.OK))
	}
	// The window is 2.
	x.news(api.Ready{From: 8, Msgs: []api.Msg{
		appendOf(1, 2, 5, 7, 5, 7, a), appendOf(1, 3, 5, 7, 5, 7, a), appendOf(1, 2, 5, 8, 5, 7, b), appendOf(1, 3, 5, 8, 5, 7, b),
	}})
	x.do(tick(0)).sends(beatOf(1, 2, 5, 7, 0), appendOf(1, 2, 5, 9, 5, 7, c, d), beatOf(1, 3, 5, 7, 0), appendOf(1, 3, 5, 9, 5, 7, c, d))
	x.do(tick(0)).sends(beatOf(1, 2, 5, 7, 0), beatOf(1, 3, 5, 7, 0))
}

func TestTickSendsTheSnapshotAgain(t *testing.T) {
	x := snapping().box(t)
	s := api.Snap{Index: 6, Term: 2, Group: three, Data: []byte("second")}
	for range 3 {
		x.do(tick(0)).sends(beatOf(1, 2, 5, 7, 0), beatOf(1, 3, 5, 0, 0), installOf(1, 3, 5, s))
	}
	// The newest one.
	x.do(compact(7, []byte("third")), tick(0))
	s = api.Snap{Index: 7, Term: 5, Group: three, Data: []byte("third")}
	x.sends(beatOf(1, 2, 5, 7, 0), beatOf(1, 3, 5, 0, 0), installOf(1, 3, 5, s))
	// A member that has it is probed.
	probe := appendOf(1, 3, 5, 7, 5, 7)
	x.do(step(yes(api.InstallSay, 3, 1, 5, 7))).sends(probe)
	x.do(tick(0)).sends(beatOf(1, 2, 5, 7, 0), beatOf(1, 3, 5, 7, 0), probe)
	x.do(step(yes(api.AppendSay, 3, 1, 5, 7)), tick(0)).sends(beatOf(1, 2, 5, 7, 0), beatOf(1, 3, 5, 7, 0))
}

// A Leader alone has nothing to do.
func TestTickOfALeaderAlone(t *testing.T) {
	start(voters(1)).leading().box(t).do(tick(0), tick(3), tick(9)).news(api.Ready{}).is(api.Hard{Term: 5, Vote: 1}, api.Leader, 1)
}
