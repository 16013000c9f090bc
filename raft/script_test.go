package raft_test

import (
	"fmt"
	"math/rand"
	"slices"
	"testing"

	"jetway/api"
)

// P12.1 to P12.5 along drawn scripts: several nodes, each beside its second reading, write to each other, and some messages are changed on their way.

type script struct {
	*rand.Rand
	*testing.T
	boxes [16]*box
	ids   []int
	sent  []api.Msg
	cut   int // nothing comes to this node
	seen  map[string]int
}

// some draws one of several.
func some[E any](r *rand.Rand, l ...E) E { return l[r.Intn(len(l))] }

func (s *script) group(most int) api.Group {
	var g api.Group
	for len(g.Voters) == 0 {
		g = api.Group{}
		for n := 1; n <= most; n++ {
			switch s.Intn(8) {
			case 0:
				g.Learners = append(g.Learners, n)
			case 1:
			default:
				g.Voters = append(g.Voters, n)
			}
		}
	}
	return g
}

func newScript(t *testing.T, seed int64, seen map[string]int) *script {
	s := &script{Rand: rand.New(rand.NewSource(seed)), T: t, seen: seen}
	most := some(s.Rand, 1, 2, 3, 3, 3, 4, 5)
	snap := api.Snap{Group: s.group(most), Data: []byte("first")}
	if s.Intn(4) == 0 {
		snap.Index, snap.Term = some(s.Rand, 3, 50, top-3000), s.Intn(3)
	}
	for id := 1; id <= most; id++ {
		h := history{id: id, snap: snap, setting: [2]int{s.Intn(3) + 1, some(s.Rand, 1, 2, 2, 3, 64)}}
		h.hard.Term = s.Intn(4)
		if s.Intn(3) == 0 {
			term := snap.Term
			for i := range s.Intn(6) {
				term += s.Intn(2)
				e := entries(snap.Index+1+i, term)[0]
				if s.Intn(5) == 0 {
					e = changing(e.Index, term, s.Intn(5), s.Intn(8))
				}
				h.entries = append(h.entries, e)
			}
		}
		s.ids = append(s.ids, id)
		s.boxes[id] = h.box(t)
	}
	return s
}

// node draws one, mostly one that leads.
func (s *script) node() *box {
	l := slices.Clone(s.ids)
	for _, id := range s.ids {
		if s.boxes[id].n.Role() == api.Leader {
			l = append(l, id, id, id, id)
		}
	}
	return s.boxes[some(s.Rand, l...)]
}

// out lets what a node sends be on its way.
func (s *script) out(x *box) {
	got, asked := x.n.Out(), x.p.Out()
	x.calls = append(x.calls, out())
	if readyText(got) != readyText(asked) {
		s.Fatalf("%v\nreturns\n%s\nwant\n%s", x.history, readyText(got), readyText(asked))
	}
	s.sent = append(s.sent, got.Msgs...)
	for _, m := range got.Msgs {
		s.seen[fmt.Sprint(kindNames[m.Kind], " ", m.Yes)]++
		if m.Kind == api.Append {
			s.seen[fmt.Sprint("Append of ", len(m.Entries))]++
		}
	}
	s.seen["reads"] += len(got.Reads)
	if got.SnapNew {
		s.seen["installed"]++
		if got.From > 0 {
			s.seen["installed, and written"]++
		}
	}
}

// near draws a number beside one of some places.
func (s *script) near(places ...int) int {
	if s.Intn(40) == 0 {
		return some(s.Rand, far...)
	}
	return some(s.Rand, places...) + some(s.Rand, -1, 0, 0, 0, 1, 2)
}

// turned is a message that is changed in one thing, or two.
func (s *script) turned(m api.Msg, n subject) api.Msg {
	m.Entries = slices.Clone(m.Entries)
	for range s.Intn(2) + 1 {
		switch s.Intn(14) {
		case 0:
			m.Kind = s.Intn(12)
		case 1:
			m.From = some(s.Rand, 0, 1, 2, 3, 4, 5, 9, 16)
		case 2, 3:
			m.Term = s.near(n.Hard().Term, n.Hard().Term, m.Term)
		case 4, 5:
			m.Index = s.near(m.Index, n.Last(), n.Committed(), n.Snap().Index)
		case 6:
			m.LogTerm = s.near(m.LogTerm)
		case 7:
			m.Yes = !m.Yes
		case 8:
			m.Commit = s.near(m.Commit, n.Last(), n.Committed())
		case 9:
			m.Hint = s.near(m.Hint, n.Snap().Index)
		case 10:
			m.Round = s.near(m.Round)
		case 11:
			if len(m.Entries) > 0 {
				e := &m.Entries[s.Intn(len(m.Entries))]
				e.Term, e.Kind = e.Term+s.Intn(2), s.Intn(3)
			}
		case 12:
			if len(m.Entries) > 0 {
				m.Entries = m.Entries[:s.Intn(len(m.Entries))]
			}
		case 13:
			m.Snap = n.Snap()
			m.Snap.Index += s.Intn(9) - 2
			m.Index, m.LogTerm = m.Snap.Index, m.Snap.Term
		}
	}
	return m
}

func (s *script) deliver() {
	at := s.Intn(len(s.sent))
	m := s.sent[at]
	if s.Intn(8) > 0 {
		s.sent = slices.Delete(s.sent, at, at+1)
	}
	if s.Intn(20) == 0 || m.To == s.cut || !within(1, m.To, len(s.ids)) {
		return
	}
	x := s.boxes[m.To]
	if s.Intn(7) == 0 {
		m = s.turned(m, x.n)
	}
	x.do(step(m))
}

func (s *script) restart(x *box) {
	h := history{id: x.id, hard: x.n.Hard(), snap: x.n.Snap(), setting: x.setting}
	h.entries = x.n.Get(h.snap.Index+1, x.n.Last())
	s.boxes[x.id] = h.box(s.T)
}

// forget applies all that is committed, and lets a snapshot stand for most of it.
func (s *script) forget(x *box) {
	s.out(x)
	x.do(todo(9), done(x.n.Committed()), compact(x.n.Committed()-s.Intn(3), longBytes(s.Intn(12))))
}

// install lets a snapshot of one node come to another one, as if that led.
func (s *script) install() {
	x, y := s.boxes[some(s.Rand, s.ids...)], s.boxes[some(s.Rand, s.ids...)]
	m := installOf(x.id, y.id, max(x.n.Hard().Term, y.n.Hard().Term), x.n.Snap())
	y.do(step(m))
	if s.Intn(2) == 0 {
		l := entries(m.Index+1, m.Term, m.Term)[:s.Intn(3)]
		y.do(step(appendOf(x.id, y.id, m.Term, m.Index, m.LogTerm, m.Index+1, l...)))
	}
}

func (s *script) ask(x *box) {
	switch s.Intn(9) {
	case 0, 1, 2:
		s.seen["Propose "+x.result(propose(longBytes(some(s.Rand, 0, 1, 5, 9, 4096, 4097))))[:1]]++
	case 3:
		got := x.result(change(s.Intn(5), s.Intn(8)))
		s.seen["Change "+got[len(got)-1:]]++
	case 4, 5:
		s.seen["Read "+x.result(read(s.Intn(100)))]++
	case 6:
		x.do(todo(s.Intn(5)))
	case 7:
		got := x.result(done(x.n.Applied() + s.Intn(max(1, x.n.Committed()-x.n.Applied()+2))))
		s.seen["Done "+got]++
	case 8:
		if s.Intn(3) == 0 {
			s.out(x)
			got := x.result(compact(x.n.Applied()-s.Intn(4)+s.Intn(2), longBytes(s.Intn(12))))
			s.seen["Compact "+got]++
		}
	}
}

func (s *script) step() {
	switch n := s.Intn(100); {
	case n < 52 && len(s.sent) > 0:
		s.deliver()
	case n < 60:
		x := s.boxes[some(s.Rand, s.ids...)]
		x.do(tick(s.Intn(9) - 1))
	case n < 64:
		s.node().do(tick(s.Intn(9) - 1))
	case n < 83:
		s.ask(s.node())
	case n < 84:
		s.install()
	case n < 85:
		s.restart(s.node())
	case n < 86:
		s.cut = s.Intn(len(s.ids) + 1)
	case n < 89:
		s.forget(s.node())
	default:
		s.out(s.node())
	}
	if s.Intn(3) > 0 {
		s.out(s.boxes[some(s.Rand, s.ids...)])
	}
}

func TestScripts(t *testing.T) {
	t.Parallel()
	seen := map[string]int{}
	for seed := range int64(2500) {
		s := newScript(t, seed, seen)
		for range 250 {
			s.step()
		}
		for _, id := range s.ids {
			seen[fmt.Sprint("role ", s.boxes[id].n.Role())]++
		}
	}
	// So that the scripts do not leave out what may come of a call.
	for _, what := range []string{
		"Pre false", "PreSay true", "PreSay false", "Ask false", "Say true", "Say false",
		"Append false", "AppendSay true", "AppendSay false", "Beat false", "BeatSay true", "BeatSay false", "Install false", "InstallSay true", "InstallSay false",
		"Append of 0", "Append of 1", "Append of 2", "Append of 8", "reads", "installed", "installed, and written",
		"Read error 0", "Read error 7", "Change 0", "Change 1", "Change 7", "Done error 0", "Done error 7", "Compact error 0", "Compact error 7",
		"role 0", "role 1", "role 2", "role 3",
	} {
		if seen[what] < 30 {
			t.Fatalf("%s was seen %d times: %v", what, seen[what], seen)
		}
	}
}

// At the end of a script, what is ignored changes nothing, and the node goes on as the second reading does.
func TestScriptsEndAlike(t *testing.T) {
	t.Parallel()
	for seed := range int64(150) {
		s := newScript(t, seed+70000, map[string]int{})
		for range 80 {
			s.step()
		}
		x := s.node()
		var l []call
		for _, good := range kinds(x.id%15+1, x.n.Hard().Term) {
			for _, m := range []api.Msg{good, good, good, good} {
				m.To = some(s.Rand, 0, x.id+1, 16)
				l = append(l, step(m))
			}
		}
		wantNothing(t, x.history, l...)
	}
}
