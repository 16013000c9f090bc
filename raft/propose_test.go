package raft_test

import (
	"fmt"
	"math"
	"slices"
	"testing"

	"jetway/api"
)

// P12.4

func TestPropose(t *testing.T) {
	x := settled(three, 2).box(t)
	x.tells(propose([]byte("x")), told(8, api.OK)).at(8, 7)
	e := dataOf(8, 5, "x")
	// Node 3 waits for an answer.
	x.news(api.Ready{From: 8, Msgs: []api.Msg{appendOf(1, 2, 5, 7, 5, 7, e)}})
	x.tells(get(8, 9), entriesText([]api.Entry{e}))
	x.tells(propose(nil), told(9, api.OK)).news(api.Ready{From: 9, Msgs: []api.Msg{appendOf(1, 2, 5, 8, 5, 7, dataOf(9, 5, ""))}})
	x.tells(propose([]byte("z")), told(10, api.OK)).news(api.Ready{From: 10})
	// Before it is settled as well.
	start(three).leading().box(t).tells(propose([]byte("x")), told(8, api.OK)).at(8, 3).news(api.Ready{From: 8})
	// Alone it commits at once: Beats to the learners first, and then the entries.
	h := settled(api.Group{Voters: []int{1}, Learners: []int{2, 3}}, 2, 3)
	h.box(t).tells(propose([]byte("x")), told(8, api.OK)).at(8, 8).news(api.Ready{From: 8, Msgs: []api.Msg{
		beatOf(1, 2, 5, 7, 0), beatOf(1, 3, 5, 7, 0), appendOf(1, 2, 5, 7, 5, 8, e), appendOf(1, 3, 5, 7, 5, 8, e),
	}})
}

func TestProposeOfLongData(t *testing.T) {
	for _, n := range []int{0, 1, 4095, 4096} {
		x := settled(three, 2).box(t).tells(propose(longBytes(n)), told(8, api.OK)).at(8, 7)
		if l := x.n.Get(8, 1); len(l) != 1 || len(l[0].Data) != n || l[0].Kind != api.EntryData || l[0].Term != 5 {
			t.Errorf("%d bytes: %s", n, entriesText(l))
		}
	}
	for _, n := range []int{4097, 4098, 1 << 16} {
		settled(three, 2).box(t).tells(propose(longBytes(n)), told(0, api.ErrArg)).at(7, 7).news(api.Ready{})
		wantNothing(t, settled(three, 2), propose(longBytes(n)))
	}
}

// Only a Leader may be asked; that is named first.
func TestWhoDoesNotLead(t *testing.T) {
	for name, h := range roles() {
		if h.plain(t).isLeader() {
			continue
		}
		t.Run(name, func(t *testing.T) {
			var all []call
			for _, data := range [][]byte{nil, []byte("x"), longBytes(4097)} {
				h.box(t).tells(propose(data), told(0, api.ErrOrder))
				all = append(all, propose(data))
			}
			for kind := range 5 {
				for _, node := range []int{-1, 0, 1, 2, 3, 4, 16} {
					h.box(t).tells(change(kind, node), told(0, api.ErrOrder))
					all = append(all, change(kind, node))
				}
			}
			h.box(t).tells(read(1), code(api.ErrOrder))
			wantNothing(t, h, append(all, read(1))...)
		})
	}
}

func TestProposeIsNotKept(t *testing.T) {
	n := settled(three, 2).node(t)
	data := []byte("data")
	if i, e := n.Propose(data); i != 8 || e != api.OK {
		t.Fatal(i, e)
	}
	before := view(n)
	spoilBytes(data)
	if view(n) != before {
		t.Error(view(n))
	}
	if l := n.Out().Msgs; len(l) != 1 || string(l[0].Entries[0].Data) != "data" {
		t.Error(l)
	}
}

func TestProposeAtTheEnd(t *testing.T) {
	h := fresh(1, voters(1), 1, 1)
	h.snap.Index = top - 2
	x := h.box(t).do(tick(0)).at(top-1, top-1).tells(propose(nil), told(top, api.OK)).at(top, top).do(out())
	x.tells(propose(nil), told(0, api.ErrArg)).tells(change(api.AddLearner, 2), told(0, api.ErrArg)).at(top, top).news(api.Ready{})
	x.tells(read(3), code(api.OK)).news(api.Ready{Reads: []api.ReadAt{{Token: 3, Index: top}}})
}

// Change

func TestChange(t *testing.T) {
	x := settled(three, 2, 3).box(t)
	add, promote, remove := changing(8, 5, api.AddLearner, 4), changing(9, 5, api.Promote, 4), changing(10, 5, api.Remove, 2)
	x.tells(change(api.AddLearner, 4), told(8, api.OK)).at(8, 7).groups(api.Group{Voters: upTo(3), Learners: []int{4}})
	// It is known of the learner that it is a member, and nothing else.
	x.news(api.Ready{From: 8, Msgs: []api.Msg{appendOf(1, 2, 5, 7, 5, 7, add), appendOf(1, 3, 5, 7, 5, 7, add), appendOf(1, 4, 5, 8, 5, 7)}})
	x.tells(get(8, 1), entriesText([]api.Entry{add}))
	x.do(step(no(api.AppendSay, 4, 1, 5, 8, 0))).sends(installOf(1, 4, 5, x.history.snap))
	// One change at a time.
	x.tells(change(api.Promote, 4), told(0, api.ErrOrder)).tells(change(api.Remove, 2), told(0, api.ErrOrder)).news(api.Ready{})
	x.do(step(yes(api.AppendSay, 2, 1, 5, 8)), out()).at(8, 8)
	x.tells(change(api.Promote, 4), told(9, api.OK)).groups(voters(1, 2, 3, 4)).news(api.Ready{From: 9, Msgs: []api.Msg{appendOf(1, 2, 5, 8, 5, 8, promote), appendOf(1, 3, 5, 8, 5, 8, promote)}})
	// Of four, three must have it.
	x.do(step(yes(api.AppendSay, 3, 1, 5, 9))).at(9, 8).do(step(yes(api.AppendSay, 4, 1, 5, 9))).at(9, 9).do(out())
	x.tells(change(api.Remove, 2), told(10, api.OK)).groups(voters(1, 3, 4))
	// Who is removed gets no message any more, and its answers are ignored.
	x.news(api.Ready{From: 10, Msgs: []api.Msg{appendOf(1, 3, 5, 9, 5, 9, remove)}})
	x.do(step(yes(api.AppendSay, 2, 1, 5, 10)), step(yes(api.AppendSay, 2, 1, 5, 7)), step(no(api.AppendSay, 2, 1, 5, 8, 3))).at(10, 9).news(api.Ready{})
	x.do(tick(0)).do(step(yes(api.AppendSay, 3, 1, 5, 10))).at(10, 10)
}

// All kinds and nodes: what may not be is named by quorum; the node itself is not changed by itself.
func TestChangeOfAll(t *testing.T) {
	g := api.Group{Voters: []int{1, 2, 3}, Learners: []int{4}}
	for _, kind := range append([]int{0, 1, 2, 3, 4}, far...) {
		for _, node := range append([]int{0, 1, 2, 3, 4, 5, 15, 16}, far...) {
			t.Run(fmt.Sprint(kind, " of ", node), func(t *testing.T) {
				asked := told(8, api.OK)
				switch {
				case !within(1, kind, 3) || !within(1, node, 15):
					asked = told(0, api.ErrArg)
				case node == 1, kind == api.AddLearner && node <= 4, kind == api.Promote && node != 4, kind == api.Remove && node > 4:
					asked = told(0, api.ErrOrder)
				}
				settled(g, 2).box(t).tells(change(kind, node), asked)
				if asked != told(8, api.OK) {
					settled(g, 2).box(t).do(change(kind, node)).at(7, 7).groups(g).news(api.Ready{})
					wantNothing(t, settled(g, 2), change(kind, node))
				}
			})
		}
	}
}

// What is wrong with the change is named ahead of what is wrong with the time.
func TestChangeNamesTheFirstError(t *testing.T) {
	for _, h := range []history{start(three).leading(), settled(three, 2).then(change(api.AddLearner, 4), out())} {
		x := h.box(t)
		x.tells(change(0, 5), told(0, api.ErrArg)).tells(change(api.AddLearner, 16), told(0, api.ErrArg)).tells(change(api.AddLearner, 5), told(0, api.ErrOrder))
		x.tells(change(api.Remove, 1), told(0, api.ErrOrder)).tells(change(4, 1), told(0, api.ErrArg)).news(api.Ready{})
	}
	// It does not lead: that is the very first.
	start(three).box(t).tells(change(0, 99), told(0, api.ErrOrder))
}

// Not before an entry of its own term is committed, not even one that came with a snapshot.
func TestChangeWaitsForItsTerm(t *testing.T) {
	x := start(three).leading().box(t).tells(change(api.AddLearner, 4), told(0, api.ErrOrder)).do(step(yes(api.AppendSay, 3, 1, 5, 6)))
	x.tells(change(api.AddLearner, 4), told(0, api.ErrOrder)).do(step(yes(api.AppendSay, 3, 1, 5, 7)))
	x.tells(change(api.AddLearner, 4), told(8, api.OK))
	// The entry at Committed may be in the snapshot.
	settled(three, 2).then(done(7), compact(7, nil)).box(t).tells(change(api.AddLearner, 4), told(8, api.OK))
}

// A change of an earlier leader that is not committed stands in the way, whatever its Data are.
func TestChangeWaitsForAnother(t *testing.T) {
	for _, e := range []api.Entry{changing(6, 2, api.AddLearner, 4), {Index: 6, Term: 2, Kind: api.EntryChange}, changing(6, 2, 9, 9)} {
		h := start(three)
		h.entries[2] = e
		x := h.leading().box(t).do(step(yes(api.AppendSay, 2, 1, 5, 6))).tells(change(api.AddLearner, 5), told(0, api.ErrOrder))
		x.do(step(yes(api.AppendSay, 2, 1, 5, 7))).at(7, 7).tells(change(api.AddLearner, 5), told(8, api.OK))
		x.tells(change(api.AddLearner, 6), told(0, api.ErrOrder))
	}
	// Other kinds do not.
	h := settled(three, 2)
	for kind := range 8 {
		if kind == api.EntryChange {
			continue
		}
		h := start(three)
		h.entries[2] = api.Entry{Index: 6, Term: 2, Kind: kind, Data: changeData(api.AddLearner, 4)}
		h.leading().then(step(yes(api.AppendSay, 2, 1, 5, 7))).box(t).groups(three).tells(change(api.AddLearner, 5), told(8, api.OK))
	}
	h.box(t).do(propose(changeData(api.AddLearner, 4))).groups(three).tells(change(api.AddLearner, 5), told(9, api.OK))
}

// Groups become smaller, down to the leader alone.
func TestChangeToOneAlone(t *testing.T) {
	x := settled(voters(1, 2), 2).box(t)
	x.tells(change(api.Remove, 2), told(8, api.OK)).at(8, 8).groups(voters(1)).news(api.Ready{From: 8})
	x.tells(read(1), code(api.OK)).news(api.Ready{Reads: []api.ReadAt{{Token: 1, Index: 8}}})
	x.tells(change(api.Remove, 1), told(0, api.ErrOrder)).tells(propose(nil), told(9, api.OK)).at(9, 9).do(out())
	x.tells(change(api.AddLearner, 2), told(10, api.OK)).at(10, 10).groups(api.Group{Voters: []int{1}, Learners: []int{2}})
	x.news(api.Ready{From: 10, Msgs: []api.Msg{beatOf(1, 2, 5, 0, 0), appendOf(1, 2, 5, 10, 5, 10)}})
	// Who comes back is a stranger, of whom nothing is known.
	x.do(step(yes(api.AppendSay, 2, 1, 5, 10)), out()).tells(change(api.Promote, 2), told(11, api.OK)).at(11, 10)
	x.do(step(yes(api.AppendSay, 2, 1, 5, 11))).at(11, 11)
}

// A group that its leader leaves: not by itself, but by another one, that leads later.
func TestALeaderLeaves(t *testing.T) {
	h := settled(three, 2, 3).then(propose(nil), out())
	x := h.box(t).tells(change(api.Remove, 1), told(0, api.ErrOrder))
	x.do(step(appendOf(2, 1, 6, 7, 5, 7, empty(8, 6), changing(9, 6, api.Remove, 1)))).is(api.Hard{Term: 6}, api.Follower, 2).groups(voters(2, 3)).at(9, 7)
	x.do(step(beatOf(2, 1, 6, 9, 4))).at(9, 9).do(out()).do(slices.Repeat([]call{tick(0)}, 9)...).news(api.Ready{}).is(api.Hard{Term: 6}, api.Follower, 2)
	// A candidate that left stays out as well, even if it still is asked for.
	x.do(step(yes(api.PreSay, 2, 1, 7, 0)), step(yes(api.Say, 2, 1, 6, 0))).news(api.Ready{}).is(api.Hard{Term: 6}, api.Follower, 2)
}

// Read

func TestReadAlone(t *testing.T) {
	x := start(voters(1)).leading().box(t)
	for n := range 70 {
		x.tells(read(n-3), code(api.OK)).news(api.Ready{Reads: []api.ReadAt{{Token: n - 3, Index: 7}}})
	}
	// With learners no Beat is needed either.
	settled(api.Group{Voters: []int{1}, Learners: []int{2}}, 2).box(t).tells(read(9), code(api.OK)).news(api.Ready{Reads: []api.ReadAt{{Token: 9, Index: 7}}})
	// Several, in their order, and the same token twice.
	x.do(read(5), propose(nil), read(4), read(5), read(math.MinInt), out())
	x.do(read(5), propose(nil), read(4), read(5), read(math.MinInt))
	x.news(api.Ready{From: 9, Reads: []api.ReadAt{{Token: 5, Index: 8}, {Token: 4, Index: 9}, {Token: 5, Index: 9}, {Token: math.MinInt, Index: 9}}})
}

func TestRead(t *testing.T) {
	x := settled(three, 2).box(t).tells(read(4), code(api.OK)).sends(beatOf(1, 2, 5, 7, 1), beatOf(1, 3, 5, 0, 1))
	x.tells(read(4), code(api.OK)).sends(beatOf(1, 2, 5, 7, 2), beatOf(1, 3, 5, 0, 2))
	// The tick tells the round of the last one.
	x.do(tick(0)).sends(beatOf(1, 2, 5, 7, 2), beatOf(1, 3, 5, 0, 2), appendOf(1, 3, 5, 6, 2, 7, empty(7, 5)))
	x.do(step(beatSay(3, 1, 5, 6, 1)), out()).do(step(beatSay(2, 1, 5, 6, 2))).news(api.Ready{Reads: []api.ReadAt{{Token: 4, Index: 7}}})
}

func TestReadOfALeaderThatIsNotSettled(t *testing.T) {
	x := start(three).leading().box(t).tells(read(1), code(api.ErrOrder)).news(api.Ready{})
	wantNothing(t, start(three).leading(), read(1))
	x.do(step(yes(api.AppendSay, 2, 1, 5, 7)), out()).tells(read(1), code(api.OK))
	settled(three, 2).then(done(7), compact(7, nil)).box(t).tells(read(1), code(api.OK))
}

func TestManyReads(t *testing.T) {
	x := settled(three, 2, 3).box(t)
	for n := range 64 {
		x.tells(read(n), code(api.OK))
	}
	x.do(out()).tells(read(64), code(api.ErrOrder)).news(api.Ready{})
	x.do(tick(0)).sends(beatOf(1, 2, 5, 7, 64), beatOf(1, 3, 5, 7, 64))
	// Those that are completed are pending no more.
	x.do(step(beatSay(3, 1, 5, 7, 1))).news(api.Ready{Reads: []api.ReadAt{{Token: 0, Index: 7}}})
	x.tells(read(65), code(api.OK)).tells(read(66), code(api.ErrOrder)).sends(beatOf(1, 2, 5, 7, 65), beatOf(1, 3, 5, 7, 65))
	x.do(step(beatSay(2, 1, 5, 7, 65)))
	var asked []api.ReadAt
	for n := 1; n < 64; n++ {
		asked = append(asked, api.ReadAt{Token: n, Index: 7})
	}
	x.news(api.Ready{Reads: append(asked, api.ReadAt{Token: 65, Index: 7})})
	// A full list is named even to one who is alone by now.
	y := settled(voters(1, 2), 2).box(t)
	for n := range 64 {
		y.do(read(n))
	}
	y.do(change(api.Remove, 2)).groups(voters(1)).tells(read(64), code(api.ErrOrder))
}
