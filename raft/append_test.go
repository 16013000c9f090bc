package raft_test

import (
	"fmt"
	"math"
	"slices"
	"testing"

	"jetway/api"
)

// P12.3: Append and Beat

func TestAppend(t *testing.T) {
	l := entries(7, 4, 4)
	x := start(three).box(t).do(step(appendOf(2, 1, 4, 6, 2, 5, l...))).is(api.Hard{Term: 4}, api.Follower, 2).at(8, 5)
	x.news(api.Ready{From: 7, Msgs: []api.Msg{yes(api.AppendSay, 1, 2, 4, 8)}})
	x.tells(get(4, 9), entriesText(append(entries(4, 1, 2, 2), l...)))
	// Once more: nothing is written, and it is answered again.
	x.do(step(appendOf(2, 1, 4, 6, 2, 5, l...))).sends(yes(api.AppendSay, 1, 2, 4, 8)).at(8, 5)
	// None.
	x.do(step(appendOf(2, 1, 4, 7, 4, 5))).sends(yes(api.AppendSay, 1, 2, 4, 7)).at(8, 5)
	// Fewer than it has: what is behind them stays.
	x.do(step(appendOf(2, 1, 4, 4, 1, 5, entries(5, 2, 2)...))).sends(yes(api.AppendSay, 1, 2, 4, 6)).at(8, 5)
	// In the place of others.
	more := entries(7, 5, 6)
	x.do(step(appendOf(3, 1, 6, 5, 2, 6, append(entries(6, 2), more...)...))).is(api.Hard{Term: 6}, api.Follower, 3).at(8, 6)
	x.news(api.Ready{HardNew: true, Hard: api.Hard{Term: 6}, From: 7, Msgs: []api.Msg{yes(api.AppendSay, 1, 3, 6, 8)}})
	x.tells(get(4, 9), entriesText(append(entries(4, 1, 2, 2), more...)))
	// More than a leader of this program sends.
	x.do(step(appendOf(3, 1, 6, 8, 6, 0, entries(9, slices.Repeat([]int{6}, 40)...)...))).at(48, 6)
	x.news(api.Ready{From: 9, Msgs: []api.Msg{yes(api.AppendSay, 1, 3, 6, 48)}})
}

func TestAppendBelowTheBase(t *testing.T) {
	x := start(three).box(t)
	x.do(step(appendOf(2, 1, 4, 0, 0, 9, entries(1, 1, 1)...))).sends(yes(api.AppendSay, 1, 2, 4, 2)).at(6, 3)
	x.do(step(appendOf(2, 1, 4, 1, 9, 9))).sends(yes(api.AppendSay, 1, 2, 4, 1)).at(6, 3)
	x.do(step(appendOf(2, 1, 4, -7, 9, 9))).sends(yes(api.AppendSay, 1, 2, 4, -7)).at(6, 3)
	x.do(step(appendOf(2, 1, 4, 1, 1, 9, entries(2, 1, 1, 1)...))).sends(yes(api.AppendSay, 1, 2, 4, 4)).at(6, 4)
	x.do(step(appendOf(2, 1, 4, 2, 1, 9, entries(3, 1, 1, 3)...))).at(5, 5)
	x.news(api.Ready{From: 5, Msgs: []api.Msg{yes(api.AppendSay, 1, 2, 4, 5)}})
	// The first one behind the base has a lesser Term than that.
	h := start(three)
	h.snap.Term, h.entries = 2, nil
	h.box(t).do(step(appendOf(2, 1, 4, 1, 0, 9, entries(2, 0, 1, 1)...))).at(3, 3).sends(no(api.AppendSay, 1, 2, 4, 1, 3))
}

func TestAppendIsRefused(t *testing.T) {
	for _, c := range []struct {
		index, logTerm int
		l              []api.Entry
		hint           int
	}{
		{7, 4, nil, 6}, {7, 2, entries(8, 4), 6}, {7, 1, entries(8, 4), 4}, {9, 4, nil, 6}, {99, 1, nil, 4}, {top + 9, 3, nil, 6}, {math.MaxInt, 2, nil, 6},
		{6, 1, entries(7, 4), 4}, {6, 3, entries(7, 4), 6}, {6, 0, nil, 3}, {6, 4, nil, 6}, {5, 1, entries(6, 4), 4}, {5, 3, nil, 5}, {4, 0, nil, 3}, {4, 2, entries(5, 2), 4}, {4, -1, nil, 3},
		{3, 0, entries(4, 1), 3}, {3, 2, entries(4, 2), 3}, {3, top, nil, 3},
	} {
		what := fmt.Sprint(c.index, " of term ", c.logTerm)
		t.Run(what, func(t *testing.T) {
			m := appendOf(3, 1, 4, c.index, c.logTerm, 6, c.l...)
			x := start(three).box(t).do(step(m)).is(api.Hard{Term: 4}, api.Follower, 3).at(6, 3)
			x.sends(no(api.AppendSay, 1, 3, 4, c.index, c.hint))
		})
	}
}

// The leader is heard all the same.
func TestAppendWithoutAnAnswer(t *testing.T) {
	h := start(three).then(step(appendOf(2, 1, 4, 6, 2, 5)), out())
	for what, m := range map[string]api.Msg{
		"one is left out":   appendOf(3, 1, 5, 6, 2, 6, entries(8, 5)...),
		"not behind it":     appendOf(3, 1, 5, 5, 2, 6, entries(7, 5)...),
		"a gap":             appendOf(3, 1, 5, 6, 2, 6, append(entries(7, 5), entries(9, 5)...)...),
		"a falling Term":    appendOf(3, 1, 5, 6, 2, 6, entries(7, 5, 4)...),
		"below its LogTerm": appendOf(3, 1, 5, 6, 2, 6, entries(7, 1)...),
		"too much Data":     appendOf(3, 1, 5, 6, 2, 6, api.Entry{Index: 7, Term: 5, Data: longBytes(4097)}),
		"a wrong Kind":      appendOf(3, 1, 5, 6, 2, 6, api.Entry{Index: 7, Term: 5, Kind: 8}),
		"a wrong Term":      appendOf(3, 1, 5, 6, 2, 6, api.Entry{Index: 7, Term: top + 1}),
		"Index 0":           appendOf(3, 1, 5, -1, 2, 6, entries(0, 5)...),
		"far below":         appendOf(3, 1, 5, math.MinInt, 0, 6, entries(1, 5)...),
		"far above":         appendOf(3, 1, 5, math.MaxInt, 0, math.MaxInt, entries(7, 5)...),
		"what is committed": appendOf(3, 1, 5, 4, 1, 6, entries(5, 3)...),
		"committed, below":  appendOf(3, 1, 5, 3, 1, 6, entries(4, 2, 3, 3, 3)...),
	} {
		t.Run(what, func(t *testing.T) {
			hard := api.Hard{Term: 5}
			h.box(t).do(step(m)).is(hard, api.Follower, 3).at(6, 5).news(api.Ready{HardNew: true, Hard: hard})
			// Afterwards it is as behind a Beat of that leader.
			wantFutures(t, h.then(step(m), out()), h.then(step(beatOf(3, 1, 5, 0, 0)), out()))
		})
	}
}

func TestAppendCommits(t *testing.T) {
	// Behind index 6, of none, one or three entries; or behind 5, of one that is there.
	for _, c := range []struct {
		index, many int
	}{{6, 0}, {6, 1}, {6, 3}, {5, 1}, {4, 1}, {5, 0}} {
		for commit := -1; commit <= 12; commit++ {
			l := append(entries(5, 2, 2), entries(7, 4, 4, 4)...)[c.index-4:][:c.many]
			asked := max(3, min(commit, c.index+c.many))
			x := start(three).box(t).do(step(appendOf(2, 1, 4, c.index, []int{1, 2, 2}[c.index-4], commit, l...)))
			x.at(max(6, c.index+c.many), asked)
		}
		for _, commit := range far {
			x := start(three).box(t).do(step(appendOf(2, 1, 4, 6, 2, commit, entries(7, 4)...)))
			x.at(7, max(3, min(commit, 7)))
		}
	}
	// Never back.
	x := start(three).box(t).do(step(appendOf(2, 1, 4, 6, 2, 6))).at(6, 6)
	x.do(step(appendOf(2, 1, 4, 6, 2, 4)), step(appendOf(2, 1, 4, 4, 1, 6)), step(appendOf(2, 1, 4, 6, 2, 0, entries(7, 4)...))).at(7, 6)
	// A refused one commits nothing.
	start(three).box(t).do(step(appendOf(2, 1, 4, 6, 1, 6))).at(6, 3)
}

func TestAppendOfWhoeverRuns(t *testing.T) {
	for _, h := range []history{start(three).hopeful(), start(three).candidate()} {
		x := h.box(t)
		hard := x.n.Hard()
		x.do(step(appendOf(3, 1, hard.Term, 6, 2, 6, entries(7, 4)...))).is(hard, api.Follower, 3).at(7, 6)
		x.news(api.Ready{From: 7, Msgs: []api.Msg{yes(api.AppendSay, 1, 3, hard.Term, 7)}})
		// It has waited no longer.
		x.do(tick(0)).news(api.Ready{})
	}
	// From a node that is not in its group, too.
	start(three).box(t).do(step(appendOf(9, 1, 4, 6, 2, 6))).is(api.Hard{Term: 4}, api.Follower, 9).sends(yes(api.AppendSay, 1, 9, 4, 6))
}

func TestAppendIsNotKept(t *testing.T) {
	x := start(three).box(t)
	l := append(entries(7, 4), changing(8, 4, api.AddLearner, 4))
	x.n.Step(appendOf(2, 1, 4, 6, 2, 6, l...))
	before := view(x.n)
	spoilEntries(l)
	if view(x.n) != before {
		t.Error("the entries are kept")
	}
	r := x.n.Out()
	if len(r.Msgs) != 1 || msgText(r.Msgs[0]) != msgText(yes(api.AppendSay, 1, 2, 4, 8)) {
		t.Error(readyText(r))
	}
}

// A change holds for the group as soon as it is written, and no more when it is removed.
func TestAppendChangesTheGroup(t *testing.T) {
	x := start(three).then(tick(0)).box(t)
	x.do(step(appendOf(2, 1, 4, 6, 2, 0, changing(7, 4, api.AddLearner, 4), empty(8, 4)))).groups(api.Group{Voters: upTo(3), Learners: []int{4}})
	x.do(step(appendOf(2, 1, 4, 8, 4, 8, changing(9, 4, api.Promote, 4), changing(10, 4, api.Remove, 2)))).groups(voters(1, 3, 4))
	x.do(step(appendOf(3, 1, 5, 9, 4, 8, empty(10, 5)))).groups(voters(1, 2, 3, 4))
	x.do(step(appendOf(3, 1, 6, 8, 4, 8, empty(9, 6)))).groups(api.Group{Voters: upTo(3), Learners: []int{4}})
	x.do(out(), tick(0), tick(0)).sends(ballot(api.Pre, 1, 2, 7, 9, 6), ballot(api.Pre, 1, 3, 7, 9, 6))
	x.do(step(appendOf(3, 1, 7, 9, 6, 8, changing(10, 7, api.Promote, 4), changing(11, 7, api.Remove, 1), changing(12, 7, api.Remove, 3)))).groups(voters(2, 4))
	// It does not vote any more.
	x.do(out()).do(slices.Repeat([]call{tick(0)}, 5)...).news(api.Ready{})
	x.do(step(appendOf(3, 1, 8, 10, 7, 8, empty(11, 8)))).groups(voters(1, 2, 3, 4)).do(out(), tick(0), tick(0))
	x.sends(ballot(api.Pre, 1, 2, 9, 11, 8), ballot(api.Pre, 1, 3, 9, 11, 8), ballot(api.Pre, 1, 4, 9, 11, 8))
	// Entries that are there already change nothing again.
	x.do(step(appendOf(2, 1, 8, 6, 2, 8, changing(7, 4, api.AddLearner, 4)))).groups(voters(1, 2, 3, 4))
}

func TestBeat(t *testing.T) {
	for commit := -1; commit <= 9; commit++ {
		x := start(three).box(t).do(step(beatOf(2, 1, 4, commit, 8))).is(api.Hard{Term: 4}, api.Follower, 2).at(6, max(3, min(commit, 6)))
		x.sends(beatSay(1, 2, 4, 6, 8))
	}
	for _, commit := range far {
		start(three).box(t).do(step(beatOf(2, 1, 4, commit, 8))).at(6, max(3, min(commit, 6)))
	}
	// The Round is that of the Beat, whatever it is.
	for _, round := range append([]int{0, 1, 64, 65, top}, far...) {
		start(three).box(t).do(step(beatOf(2, 1, 4, 0, round))).sends(beatSay(1, 2, 4, 6, round))
	}
	// Never back.
	start(three).box(t).do(step(beatOf(2, 1, 4, 5, 0)), step(beatOf(2, 1, 4, 4, 0)), step(beatOf(2, 1, 4, 0, 0))).at(6, 5)
	// Of a greater term.
	hard := api.Hard{Term: 9}
	x := settled(three, 2).box(t).do(step(beatOf(3, 1, 9, 0, 2))).is(hard, api.Follower, 3).at(7, 7)
	x.news(api.Ready{HardNew: true, Hard: hard, Msgs: []api.Msg{beatSay(1, 3, 9, 7, 2)}})
	// No other field of it counts.
	m := beatOf(2, 1, 4, 4, 8)
	m.Index, m.LogTerm, m.Yes, m.Hint, m.Entries, m.Snap = 9, 9, true, 9, entries(7, 4), api.Snap{Index: 9, Term: 4, Group: three}
	start(three).box(t).do(step(m)).at(6, 4).sends(beatSay(1, 2, 4, 6, 8))
}
