package raft_test

import (
	"encoding/hex"
	"fmt"
	"hash/crc32"
	"slices"
	"strconv"
	"testing"

	"jetway/api"
	"jetway/raft"
)

// subject is a node, or the second reading of one.
type subject interface {
	Tick(draw int)
	Step(m api.Msg)
	Propose(data []byte) (int, api.Errno)
	Change(kind, node int) (int, api.Errno)
	Read(token int) api.Errno
	Out() api.Ready
	Todo(most int) []api.Entry
	Done(i int) api.Errno
	Compact(i int, data []byte) api.Errno
	Get(from, most int) []api.Entry
	Last() int
	Committed() int
	Applied() int
	Group() api.Group
	Snap() api.Snap
	Hard() api.Hard
	Role() int
	Leader() int
}

// line is a text that is put together; a nil slice and an empty one are the same in it.
type line []byte

func (l line) text(s string) line { return append(l, s...) }

func (l line) numbers(all ...int) line {
	for _, n := range all {
		l = strconv.AppendInt(append(l, ' '), int64(n), 10)
	}
	return l
}

func (l line) bytes(b []byte) line {
	if len(b) > 8 {
		return l.text(" many").numbers(len(b), int(b[0]), int(crc32.ChecksumIEEE(b)))
	}
	return hex.AppendEncode(append(l, ' '), b)
}

func (l line) entries(all []api.Entry) line {
	l = l.text(" [")
	for _, e := range all {
		l = l.numbers(e.Index).text("/").numbers(e.Term, e.Kind).bytes(e.Data)
	}
	return l.text(" ]")
}

func (l line) group(g api.Group) line {
	return l.text(" (").numbers(g.Voters...).text(" |").numbers(g.Learners...).text(" )")
}

func (l line) snap(s api.Snap) line {
	return l.text(" snap").numbers(s.Index).text("/").numbers(s.Term).group(s.Group).bytes(s.Data)
}

var kindNames = []string{"none", "Pre", "PreSay", "Ask", "Say", "Append", "AppendSay", "Beat", "BeatSay", "Install", "InstallSay"}

func (l line) msg(m api.Msg) line {
	if within(0, m.Kind, 10) {
		l = l.text(kindNames[m.Kind])
	} else {
		l = l.numbers(m.Kind)
	}
	l = l.numbers(m.From).text(" to").numbers(m.To).text(" term").numbers(m.Term)
	for i, n := range [...]int{m.Index, m.LogTerm, m.Commit, m.Hint, m.Round} {
		if n != 0 {
			l = l.text([...]string{" index", " logterm", " commit", " hint", " round"}[i]).numbers(n)
		}
	}
	if m.Yes {
		l = l.text(" yes")
	}
	if len(m.Entries) > 0 {
		l = l.entries(m.Entries)
	}
	if s := m.Snap; s.Index != 0 || s.Term != 0 || len(s.Group.Voters)+len(s.Group.Learners)+len(s.Data) > 0 {
		l = l.snap(s)
	}
	return l
}

func (l line) ready(r api.Ready) line {
	l = l.text("hard ").text(strconv.FormatBool(r.HardNew)).numbers(r.Hard.Term, r.Hard.Vote)
	l = l.text(", installed ").text(strconv.FormatBool(r.SnapNew)).snap(r.Snap).text(", from").numbers(r.From).text(", reads")
	for _, a := range r.Reads {
		l = l.numbers(a.Token).text(" at").numbers(a.Index)
	}
	for _, m := range r.Msgs {
		l = l.text("\n\t").msg(m)
	}
	return l
}

func msgText(m api.Msg) string { return string(line{}.msg(m)) }

func entriesText(l []api.Entry) string { return string(line{}.entries(l)) }

func snapText(s api.Snap) string { return string(line{}.snap(s)) }

func groupText(g api.Group) string { return string(line{}.group(g)) }

func readyText(r api.Ready) string { return string(line{}.ready(r)) }

// view is all that a subject tells of itself without a change.
func view(s subject) string {
	h, snap := s.Hard(), s.Snap()
	l := line{}.text("last").numbers(s.Last()).text(", committed").numbers(s.Committed()).text(", applied").numbers(s.Applied())
	l = l.text(", hard").numbers(h.Term, h.Vote).text(", role").numbers(s.Role()).text(", leader").numbers(s.Leader())
	return string(l.text(", group").group(s.Group()).snap(snap).entries(s.Get(snap.Index+1, s.Last())))
}

// call is one of the methods with its arguments; it returns its results as a text.
type call struct {
	what func() string
	do   func(s subject) string
}

func named(what string, args ...any) func() string {
	return func() string { return fmt.Sprint(append([]any{what, " "}, args...)...) }
}

func tick(draw int) call {
	return call{named("Tick", draw), func(s subject) string { s.Tick(draw); return "" }}
}

func step(m api.Msg) call {
	return call{func() string { return "Step " + msgText(m) }, func(s subject) string { s.Step(m); return "" }}
}

func told(i int, e api.Errno) string {
	return string(line{}.numbers(i).text(", error").numbers(int(e)))
}

func code(e api.Errno) string { return string(line{}.text("error").numbers(int(e))) }

func propose(data []byte) call {
	return call{named("Propose", len(data)), func(s subject) string { return told(s.Propose(data)) }}
}

func change(kind, node int) call {
	return call{named("Change", kind, node), func(s subject) string { return told(s.Change(kind, node)) }}
}

func read(token int) call {
	return call{named("Read", token), func(s subject) string { return code(s.Read(token)) }}
}

func out() call {
	return call{named("Out"), func(s subject) string { return readyText(s.Out()) }}
}

func todo(most int) call {
	return call{named("Todo", most), func(s subject) string { return entriesText(s.Todo(most)) }}
}

func done(i int) call {
	return call{named("Done", i), func(s subject) string { return code(s.Done(i)) }}
}

func compact(i int, data []byte) call {
	return call{named("Compact", i, len(data)), func(s subject) string { return code(s.Compact(i, data)) }}
}

func get(from, most int) call {
	return call{named("Get", from, most), func(s subject) string { return entriesText(s.Get(from, most)) }}
}

// history is how a node came to be as it is: what New was given, and the calls since. So the same node can be made twice.
type history struct {
	id      int
	hard    api.Hard
	snap    api.Snap
	entries []api.Entry
	setting [2]int
	calls   []call
}

func (h history) then(l ...call) history {
	h.calls = slices.Concat(h.calls, l)
	return h
}

func (h history) String() string {
	l := line{}.text("New").numbers(h.id, h.hard.Term, h.hard.Vote).snap(h.snap).entries(h.entries).numbers(h.setting[:]...)
	for _, c := range h.calls {
		l = l.text("\n").text(c.what())
	}
	return string(l)
}

func (h history) node(t *testing.T) *raft.Node {
	t.Helper()
	n, e := raft.New(h.id, h.hard, h.snap, h.entries, h.setting)
	if e != api.OK {
		t.Fatalf("%v: error %d", h, e)
	}
	for _, c := range h.calls {
		c.do(n)
	}
	return n
}

func (h history) plain(t *testing.T) *plain {
	t.Helper()
	p, e := plainNew(h.id, h.hard, h.snap, h.entries, h.setting)
	if e != api.OK {
		t.Fatalf("%v: error %d", h, e)
	}
	for _, c := range h.calls {
		c.do(p)
	}
	return p
}

// box is a node beside its second reading; each call is done to both, and held against each other.
type box struct {
	*testing.T
	history
	n *raft.Node
	p *plain
}

func (h history) box(t *testing.T) *box {
	t.Helper()
	x := &box{t, h, h.node(t), h.plain(t)}
	x.alike()
	return x
}

func (x *box) alike() {
	x.Helper()
	if got, asked := view(x.n), view(x.p); got != asked {
		x.Fatalf("%v\nthe node is\n%s\nwant\n%s", x.history, got, asked)
	}
}

// result does a call, and is what it returns.
func (x *box) result(c call) string {
	x.Helper()
	got, asked := c.do(x.n), c.do(x.p)
	x.calls = append(x.calls, c)
	if got != asked {
		x.Fatalf("%v\nreturns\n%s\nwant\n%s", x.history, got, asked)
	}
	x.alike()
	return got
}

func (x *box) do(l ...call) *box {
	x.Helper()
	for _, c := range l {
		x.result(c)
	}
	return x
}

// tells does a call that returns this.
func (x *box) tells(c call, asked string) *box {
	x.Helper()
	if got := x.result(c); got != asked {
		x.Fatalf("%v\nreturns\n%s\nwant\n%s", x.history, got, asked)
	}
	return x
}

// news calls Out, which returns this.
func (x *box) news(asked api.Ready) *box {
	x.Helper()
	return x.tells(out(), readyText(asked))
}

// sends calls Out, by which nothing is new but these messages.
func (x *box) sends(l ...api.Msg) *box {
	x.Helper()
	return x.news(api.Ready{Msgs: l})
}

// at checks Last and Committed.
func (x *box) at(last, committed int) *box {
	x.Helper()
	if x.n.Last() != last || x.n.Committed() != committed {
		x.Fatalf("%v\nLast %d, Committed %d; want %d, %d", x.history, x.n.Last(), x.n.Committed(), last, committed)
	}
	return x
}

// is checks the hard state, the role and the leader.
func (x *box) is(h api.Hard, role, leader int) *box {
	x.Helper()
	if x.n.Hard() != h || x.n.Role() != role || x.n.Leader() != leader {
		x.Fatalf("%v\n%v, role %d, leader %d; want %v, %d, %d", x.history, x.n.Hard(), x.n.Role(), x.n.Leader(), h, role, leader)
	}
	return x
}

// groups checks the group.
func (x *box) groups(g api.Group) *box {
	x.Helper()
	if groupText(x.n.Group()) != groupText(g) {
		x.Fatalf("%v\nthe group is %v, want %v", x.history, x.n.Group(), g)
	}
	return x
}
