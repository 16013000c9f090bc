package raft_test

import (
	"bytes"
	"fmt"
	"slices"
	"testing"

	"jetway/api"
)

func voters(l ...int) api.Group { return api.Group{Voters: l} }

func upTo(n int) []int {
	var l []int
	for i := range n {
		l = append(l, i+1)
	}
	return l
}

// entries have Indices from one on, these Terms, and Data that tell both.
func entries(from int, terms ...int) []api.Entry {
	var l []api.Entry
	for n, term := range terms {
		l = append(l, api.Entry{Index: from + n, Term: term, Kind: api.EntryData, Data: fmt.Appendf(nil, "%d.%d", from+n, term)})
	}
	return l
}

func changing(index, term, kind, node int) api.Entry {
	return api.Entry{Index: index, Term: term, Kind: api.EntryChange, Data: changeData(kind, node)}
}

func empty(index, term int) api.Entry {
	return api.Entry{Index: index, Term: term, Kind: api.EntryEmpty}
}

func dataOf(index, term int, data string) api.Entry {
	return api.Entry{Index: index, Term: term, Kind: api.EntryData, Data: []byte(data)}
}

// Messages of leaders, with what these have.

func appendOf(from, to, term, index, logTerm, commit int, l ...api.Entry) api.Msg {
	return api.Msg{Kind: api.Append, From: from, To: to, Term: term, Index: index, LogTerm: logTerm, Commit: commit, Entries: l}
}

func beatOf(from, to, term, commit, round int) api.Msg {
	return api.Msg{Kind: api.Beat, From: from, To: to, Term: term, Commit: commit, Round: round}
}

func installOf(from, to, term int, s api.Snap) api.Msg {
	return api.Msg{Kind: api.Install, From: from, To: to, Term: term, Index: s.Index, LogTerm: s.Term, Snap: s}
}

// Their answers.

func yes(kind, from, to, term, index int) api.Msg {
	return api.Msg{Kind: kind, From: from, To: to, Term: term, Index: index, Yes: true}
}

func no(kind, from, to, term, index, hint int) api.Msg {
	return api.Msg{Kind: kind, From: from, To: to, Term: term, Index: index, Hint: hint}
}

func beatSay(from, to, term, index, round int) api.Msg {
	return api.Msg{Kind: api.BeatSay, From: from, To: to, Term: term, Index: index, Yes: true, Round: round}
}

// ballot is one of who asks, whose log ends so.
func ballot(kind, from, to, term, index, logTerm int) api.Msg {
	return api.Msg{Kind: kind, From: from, To: to, Term: term, Index: index, LogTerm: logTerm}
}

// start is node 1, of term 4. Its snapshot is of the entries up to 3, and it has the entries 4 to 6, of the terms 1, 2 and 2.
func start(g api.Group) history {
	return history{
		id:      1,
		hard:    api.Hard{Term: 4},
		snap:    api.Snap{Index: 3, Term: 1, Group: g, Data: []byte("first")},
		entries: entries(4, 1, 2, 2),
		setting: [2]int{2, 2},
	}
}

func (h history) window(n int) history {
	h.setting[1] = n
	return h
}

// fresh is a node of a new group.
func fresh(id int, g api.Group, setting ...int) history {
	return history{id: id, snap: api.Snap{Group: g}, setting: [2]int(setting)}
}

// following has node 2 for its leader.
func (h history) following() history { return h.then(step(beatOf(2, h.id, h.hard.Term, 0, 0)), out()) }

func (h history) hopeful() history {
	return h.then(slices.Repeat([]call{tick(0)}, h.setting[0])...).then(out())
}

// candidate runs for the next term, as all others let it.
func (h history) candidate() history {
	h = h.hopeful()
	for _, v := range h.snap.Group.Voters {
		h = h.then(step(yes(api.PreSay, v, h.id, h.hard.Term+1, 0)))
	}
	return h.then(out())
}

// leading leads the next term; the entry that it has added is not committed, unless it is alone.
func (h history) leading() history {
	h = h.candidate()
	for _, v := range h.snap.Group.Voters {
		h = h.then(step(yes(api.Say, v, h.id, h.hard.Term+1, 0)))
	}
	return h.then(out())
}

// settled is a start that leads, and whose entry 7 of term 5 the nodes have, and have answered for.
func settled(g api.Group, have ...int) history {
	h := start(g).leading()
	for _, node := range have {
		h = h.then(step(yes(api.AppendSay, node, 1, 5, 7)))
	}
	return h.then(out())
}

// snapping is a settled one that sends its snapshot to node 3.
func snapping() history {
	return settled(voters(1, 2, 3), 2).then(done(7), compact(6, []byte("second")), step(no(api.AppendSay, 3, 1, 5, 6, 4)), out())
}

var three = voters(1, 2, 3)

// roles are nodes of each role, of term 4 or 5.
func roles() map[string]history {
	five := voters(1, 2, 3, 4, 5)
	return map[string]history{
		"follower":              start(three),
		"follower of 2":         start(three).following(),
		"follower that waited":  start(three).following().then(tick(0), out()),
		"hopeful":               start(three).hopeful(),
		"candidate":             start(three).candidate(),
		"leader":                start(three).leading(),
		"settled leader":        settled(three, 2),
		"leader that all know":  settled(three, 2, 3).then(read(1), propose([]byte("x")), read(2), out()),
		"leader that snaps":     snapping(),
		"leader of five":        settled(five, 2, 4).then(read(1), out()),
		"leader of a learner":   settled(api.Group{Voters: []int{1}, Learners: []int{2, 3}}, 2),
		"leader with much news": settled(five, 2, 3).then(propose(nil), read(4), change(api.Remove, 5), tick(0)),
		"learner":               start(api.Group{Voters: []int{2, 3}, Learners: []int{1}}).following(),
		"stranger":              start(voters(2, 3)),
		"alone":                 start(voters(1)).leading(),
		"one with a change":     start(three).then(step(appendOf(2, 1, 4, 6, 2, 6, changing(7, 4, api.AddLearner, 4))), out()),
	}
}

// futures are scripts that bring to light what a node does not tell by itself: how long it has waited, who said what, what is known of each member, which reads are pending, and its round.
func futures(p *plain) [][]call {
	term, last, round := p.Hard().Term, p.Last(), p.round
	var ticks, full, votes, acks, beats, later [][]call
	for n := range 3 {
		ticks = append(ticks, []call{tick(1), out(), step(ballot(api.Pre, n+2, p.id, top, top, top)), out()})
	}
	full = append(full, slices.Repeat([]call{read(9)}, 65))
	for _, node := range []int{2, 3, 4, 5} {
		votes = append(votes, []call{step(yes(api.PreSay, node, p.id, term+1, 0)), out(), step(yes(api.Say, node, p.id, term, 0)), out()})
		for _, i := range []int{p.Committed(), last - 1, last} {
			acks = append(acks, []call{step(yes(api.AppendSay, node, p.id, term, i)), out()})
		}
		for r := max(0, round-2); r <= round; r++ {
			beats = append(beats, []call{step(beatSay(node, p.id, term, last, r)), out()})
		}
		later = append(later, []call{step(no(api.AppendSay, node, p.id, term, last-1, 4)), out(), step(no(api.AppendSay, node, p.id, term, last, 4)), out(), step(no(api.InstallSay, node, p.id, term, 0, 0)), tick(0), out()})
	}
	next := appendOf(3, p.id, min(term+1, top), last, p.termOf(last), last+1, empty(last+1, min(term+1, top)))
	all := [][]call{
		{out(), propose([]byte("p")), out(), read(5), change(api.Remove, 3), tick(0), out(), propose(nil), out()},
		{out(), step(next), out(), tick(2), tick(3), out(), todo(9), done(last), compact(last, nil)},
		slices.Concat(ticks...), slices.Concat(full...), slices.Concat(votes...), slices.Concat(acks...), slices.Concat(beats...), slices.Concat(later...),
	}
	for n := range all {
		all[n] = append([]call{out()}, all[n]...)
	}
	return all
}

// wantFutures checks that the node of one history does from now on what the second reading of another one does.
func wantFutures(t *testing.T, h, like history) {
	t.Helper()
	for _, f := range futures(like.plain(t)) {
		x := &box{t, h, h.node(t), like.plain(t)}
		x.alike()
		x.do(f...)
	}
}

// wantNothing checks that the calls change nothing that any later call tells.
func wantNothing(t *testing.T, h history, l ...call) {
	t.Helper()
	wantFutures(t, h.then(l...), h)
}

// wantAll does a call, and goes on from there.
func wantAll(t *testing.T, h history, c call) {
	t.Helper()
	h.box(t).do(c)
	wantFutures(t, h.then(c), h.then(c))
}

func longBytes(n int) []byte { return bytes.Repeat([]byte{7, 1, 9}, n/3+1)[:n] }
