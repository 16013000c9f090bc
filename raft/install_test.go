package raft_test

import (
	"fmt"
	"testing"

	"jetway/api"
)

// P12.3: Install

func TestInstall(t *testing.T) {
	g := api.Group{Voters: []int{1, 4}, Learners: []int{2}}
	s := api.Snap{Index: 9, Term: 4, Group: g, Data: []byte("other")}
	x := start(three).box(t).do(step(installOf(2, 1, 4, s))).is(api.Hard{Term: 4}, api.Follower, 2).at(9, 9).groups(g)
	x.news(api.Ready{SnapNew: true, Snap: s, Msgs: []api.Msg{yes(api.InstallSay, 1, 2, 4, 9)}})
	if x.n.Applied() != 9 || snapText(x.n.Snap()) != snapText(s) || len(x.n.Get(1, 20)) != 0 {
		t.Error(view(x.n))
	}
	// Elections go on with the group, and the last entry, of the snapshot.
	x.do(tick(0), tick(0)).sends(ballot(api.Pre, 1, 4, 5, 9, 4))
	// The same one again, and an older one: what is committed is the answer.
	x.do(step(installOf(4, 1, 4, s))).sends(yes(api.InstallSay, 1, 4, 4, 9))
	old := api.Snap{Index: 8, Term: 4, Group: three}
	x.do(step(installOf(4, 1, 4, old))).sends(yes(api.InstallSay, 1, 4, 4, 9)).at(9, 9).groups(g)
	// Entries may follow.
	x.do(step(appendOf(4, 1, 4, 9, 4, 10, entries(10, 4)...))).at(10, 10)
	x.news(api.Ready{From: 10, Msgs: []api.Msg{yes(api.AppendSay, 1, 4, 4, 10)}})
}

func TestInstallOfOldSnapshots(t *testing.T) {
	h := start(three).then(step(beatOf(2, 1, 4, 5, 0)), out())
	for i := range 6 {
		// Whatever its term is.
		for _, term := range []int{0, 1, 4, 9} {
			s := api.Snap{Index: i, Term: term, Group: voters(7), Data: []byte("other")}
			x := h.box(t).do(step(installOf(2, 1, 4, s))).at(6, 5).groups(three)
			x.sends(yes(api.InstallSay, 1, 2, 4, 5))
		}
	}
}

// A log that has the entry keeps what it has, behind it too.
func TestInstallOfWhatIsThere(t *testing.T) {
	for i, term := range map[int]int{4: 1, 5: 2, 6: 2} {
		s := api.Snap{Index: i, Term: term, Group: voters(7), Data: []byte("other")}
		x := start(three).box(t).do(step(installOf(2, 1, 4, s))).at(6, i).groups(three)
		x.sends(yes(api.InstallSay, 1, 2, 4, i))
		if snapText(x.n.Snap()) != snapText(start(three).snap) || x.n.Applied() != 3 {
			t.Error(view(x.n))
		}
	}
	// One with another term there, or that is not so long, gives way.
	for _, s := range []api.Snap{{Index: 4, Term: 2, Group: voters(7)}, {Index: 5, Term: 1, Group: voters(7)}, {Index: 6, Term: 4, Group: voters(7)}, {Index: 6, Term: 0, Group: voters(7)}, {Index: 7, Term: 2, Group: voters(7)}, {Index: top, Term: top, Group: voters(7)}} {
		x := start(three).box(t).do(step(installOf(2, 1, 4, s))).at(s.Index, s.Index).groups(voters(7))
		x.news(api.Ready{SnapNew: true, Snap: s, Msgs: []api.Msg{yes(api.InstallSay, 1, 2, 4, s.Index)}})
	}
}

// What is ignored gets no answer; the leader is heard all the same.
func TestInstallOfWrongSnapshots(t *testing.T) {
	good := api.Snap{Index: 9, Term: 4, Group: three, Data: []byte("other")}
	messages := map[string]api.Msg{}
	for what, s := range wrongSnaps() {
		messages[what] = installOf(2, 1, 4, s)
	}
	for what, change := range map[string]func(m *api.Msg){
		"another Index":   func(m *api.Msg) { m.Index = 8 },
		"a later Index":   func(m *api.Msg) { m.Index = 10 },
		"Index 0":         func(m *api.Msg) { m.Index = 0 },
		"another LogTerm": func(m *api.Msg) { m.LogTerm = 3 },
		"LogTerm 0":       func(m *api.Msg) { m.LogTerm = 0 },
		"both":            func(m *api.Msg) { m.Index, m.LogTerm = 4, 9 },
		"one of old":      func(m *api.Msg) { m.Index, m.LogTerm = 3, 1 },
	} {
		m := installOf(2, 1, 4, good)
		change(&m)
		messages[what] = m
	}
	heard := step(beatOf(2, 1, 4, 0, 0))
	for what, m := range messages {
		t.Run(what, func(t *testing.T) {
			start(three).box(t).do(step(m)).is(api.Hard{Term: 4}, api.Follower, 2).at(6, 3).news(api.Ready{})
			wantFutures(t, start(three).then(step(m), out()), start(three).then(heard, out()))
		})
	}
	for what, s := range goodSnaps() {
		x := start(three).box(t).do(step(installOf(2, 1, 4, s)))
		last := max(3, s.Index)
		if r := x.n.Out(); x.n.Committed() != last || len(r.Msgs) != 1 || msgText(r.Msgs[0]) != msgText(yes(api.InstallSay, 1, 2, 4, last)) {
			t.Errorf("%s: %s; %s", what, view(x.n), readyText(r))
		}
	}
}

func TestInstallIsNotKept(t *testing.T) {
	x := start(three).box(t)
	s := api.Snap{Index: 9, Term: 4, Group: api.Group{Voters: upTo(3), Learners: []int{5}}, Data: []byte("other")}
	x.n.Step(installOf(2, 1, 4, s))
	before, asked := view(x.n), readyText(api.Ready{SnapNew: true, Snap: cloneSnap(s), Msgs: []api.Msg{yes(api.InstallSay, 1, 2, 4, 9)}})
	spoilSnap(s)
	if view(x.n) != before {
		t.Error("the snapshot is kept")
	}
	r := x.n.Out()
	if readyText(r) != asked {
		t.Error(readyText(r))
	}
	spoilSnap(r.Snap)
	if view(x.n) != before {
		t.Error("the snapshot is shared")
	}
}

// Each message has lists of its own, and so has the leader.
func TestMessagesShareNothing(t *testing.T) {
	g := api.Group{Voters: upTo(3), Learners: []int{4}}
	h := settled(g, 2).then(done(7), compact(6, []byte("second")), propose([]byte("data")), step(no(api.AppendSay, 3, 1, 5, 6, 0)), step(no(api.AppendSay, 4, 1, 5, 6, 0)), tick(0))
	n, like := h.node(t), h.node(t)
	before := view(n)
	l, asked := n.Out().Msgs, like.Out().Msgs
	installs := 0
	for i := range l {
		if msgText(l[i]) != msgText(asked[i]) {
			t.Fatalf("%s, want %s", msgText(l[i]), msgText(asked[i]))
		}
		if l[i].Kind == api.Install {
			installs++
		}
		spoilEntries(l[i].Entries)
		spoilSnap(l[i].Snap)
	}
	if installs < 4 || view(n) != before {
		t.Errorf("%d snapshots; %s, want %s", installs, view(n), before)
	}
	n.Tick(0)
	like.Tick(0)
	if got, asked := readyText(n.Out()), readyText(like.Out()); got != asked {
		t.Errorf("%s, want %s", got, asked)
	}
}

// What an Install has removed is not written any more; what follows it is.
func TestInstallEndsWhatWasWritten(t *testing.T) {
	s := api.Snap{Index: 9, Term: 4, Group: three, Data: []byte("other")}
	wrote := step(appendOf(2, 1, 4, 6, 2, 0, entries(7, 4, 4)...))
	installed := step(installOf(2, 1, 4, s))
	more := step(appendOf(2, 1, 4, 9, 4, 0, entries(10, 4, 4)...))
	other := step(appendOf(3, 1, 5, 10, 4, 0, entries(11, 5)...))
	for from, l := range map[int][]call{0: {wrote, installed}, 10: {wrote, installed, more}, 11: {wrote, installed, more, out(), other}} {
		x := start(three).box(t).do(l...)
		r := x.n.Out()
		if r.From != from || r.SnapNew != (from != 11) {
			t.Errorf("From %d, want %d", r.From, from)
		}
	}
	// Two of them: the last one counts.
	later := api.Snap{Index: 20, Term: 4, Group: voters(1, 9), Data: []byte("later")}
	x := start(three).box(t).do(installed, more, step(installOf(2, 1, 4, later))).groups(voters(1, 9))
	x.news(api.Ready{SnapNew: true, Snap: later, Msgs: []api.Msg{yes(api.InstallSay, 1, 2, 4, 9), yes(api.AppendSay, 1, 2, 4, 11), yes(api.InstallSay, 1, 2, 4, 20)}})
	x.news(api.Ready{})
}

// Changes in a log that gives way are forgotten; behind the snapshot they are made to its group.
func TestInstallAndChanges(t *testing.T) {
	x := start(three).box(t).do(step(appendOf(2, 1, 4, 6, 2, 0, changing(7, 4, api.AddLearner, 9), changing(8, 4, api.Promote, 9), changing(9, 4, api.Remove, 2)))).groups(voters(1, 3, 9))
	s := api.Snap{Index: 8, Term: 5, Group: voters(1, 2)}
	x.do(step(installOf(2, 1, 5, s))).groups(voters(1, 2)).at(8, 8)
	x.do(step(appendOf(2, 1, 5, 8, 5, 0, changing(9, 5, api.AddLearner, 3)))).groups(api.Group{Voters: []int{1, 2}, Learners: []int{3}})
	x.do(step(appendOf(2, 1, 6, 8, 5, 9, empty(9, 6)))).groups(voters(1, 2)).at(9, 9)
	x.do(out(), tick(0), tick(0)).sends(ballot(api.Pre, 1, 2, 7, 9, 6))
	if got := fmt.Sprint(x.n.Snap().Group.Voters); got != "[1 2]" {
		t.Error(got)
	}
}
