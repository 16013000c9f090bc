package raft_test

import (
	"fmt"
	"hash/fnv"
	"math/rand"
	"slices"
	"testing"

	"jetway/api"
	"jetway/raft"
)

// P12.6 by itself: here nodes are held against each other, not against the second reading.

// store is what a node has on its disk.
type store struct {
	hard    api.Hard
	snap    api.Snap
	entries []api.Entry
}

// replica is a node with its disk; its state is the sum of what it has applied.
type replica struct {
	*raft.Node
	disk  store
	state []byte
	seen  int // up to where it is known what it has committed
}

type world struct {
	*rand.Rand
	setting   [2]int
	all       [16]*replica
	ids       []int
	sent      []api.Msg
	cut       [16]bool
	committed map[int]api.Entry // at any node
	states    map[int]string    // behind these indices, at any node
	most      int               // the greatest index of them
	leaders   map[int]int       // by term
	asked     map[int]int       // by token: most, when the read was requested
	count     map[string]int
}

func newWorld(seed int64, count map[string]int) *world {
	w := &world{Rand: rand.New(rand.NewSource(seed)), committed: map[int]api.Entry{}, states: map[int]string{}, leaders: map[int]int{}, asked: map[int]int{}, count: count}
	w.setting = [2]int{w.Intn(3) + 1, some(w.Rand, 1, 2, 3, 64)}
	many := some(w.Rand, 1, 2, 3, 3, 3, 4, 5)
	snap := api.Snap{Group: voters(upTo(many)...), Data: []byte("first")}
	if w.Intn(3) == 0 {
		snap.Index, snap.Term = 7, 2
	}
	w.most, w.states[snap.Index] = snap.Index, string(snap.Data)
	// Nodes that are in no group yet are there as well.
	for id := 1; id <= many+1; id++ {
		w.ids = append(w.ids, id)
		w.all[id] = &replica{disk: store{snap: snap}}
		w.start(id)
	}
	return w
}

// start is a start, and a restart, from what is stored.
func (w *world) start(id int) {
	r := w.all[id]
	n, e := raft.New(id, r.disk.hard, r.disk.snap, r.disk.entries, w.setting)
	if e != api.OK {
		panic(fmt.Sprint("what is stored is refused: ", e))
	}
	r.Node, r.state, r.seen = n, slices.Clone(r.disk.snap.Data), r.disk.snap.Index
}

// save stores what is new.
func (w *world) save(r *replica, out api.Ready) {
	if out.HardNew {
		r.disk.hard = out.Hard
	}
	if out.SnapNew {
		w.count["installed"]++
		r.disk.snap, r.disk.entries = out.Snap, nil
		r.state, r.seen = slices.Clone(out.Snap.Data), out.Snap.Index
	}
	if out.From > 0 {
		r.disk.entries = append(slices.Clone(r.disk.entries[:out.From-r.disk.snap.Index-1]), r.Get(out.From, r.Last())...)
	}
}

// after stores what is new at a node, and then sends; it tells what the theorem rules out, or nothing.
func (w *world) after(id int) string {
	r := w.all[id]
	out := r.Out()
	w.save(r, out)
	w.sent = append(w.sent, out.Msgs...)
	for _, a := range out.Reads {
		w.count["reads"]++
		if a.Index < w.asked[a.Token] {
			return fmt.Sprintf("node %d: a read at %d, though %d was committed", id, a.Index, w.asked[a.Token])
		}
	}
	if r.Role() == api.Leader {
		term := r.Hard().Term
		if old := w.leaders[term]; old != 0 && old != id {
			return fmt.Sprintf("%d and %d are leaders of the term %d", old, id, term)
		} else if old == 0 {
			w.count["leaders"]++
		}
		w.leaders[term] = id
	}
	return w.apply(id)
}

// apply goes through all that is committed.
func (w *world) apply(id int) string {
	r := w.all[id]
	for ; r.seen < r.Committed(); r.seen++ {
		i := r.seen + 1
		e := r.Get(i, 1)[0]
		if old, ok := w.committed[i]; ok && entriesText([]api.Entry{old}) != entriesText([]api.Entry{e}) {
			return fmt.Sprintf("node %d has committed %v at %d, another one %v", id, e, i, old)
		}
		w.committed[i], w.most = e, max(w.most, i)
		w.count["committed"]++
		if e.Kind == api.EntryChange {
			w.count["changes"]++
		}
	}
	for _, e := range r.Todo(w.Intn(20)) {
		h := fnv.New64a()
		h.Write(r.state)
		h.Write([]byte(entriesText([]api.Entry{e})))
		r.state = h.Sum(nil)
		r.Done(e.Index)
		if old, ok := w.states[e.Index]; ok && old != string(r.state) {
			return fmt.Sprintf("the state of node %d behind %d is not that of another one", id, e.Index)
		}
		w.states[e.Index] = string(r.state)
	}
	return ""
}

func (w *world) compact(id int) {
	r := w.all[id]
	if r.Compact(r.Applied(), r.state) == api.OK && r.Applied() > r.disk.snap.Index {
		w.count["compacted"]++
		r.disk.entries = slices.Clone(r.disk.entries[r.Applied()-r.disk.snap.Index:])
		r.disk.snap = r.Snap()
	}
}

// leader draws a node that leads, an old one as well, or any.
func (w *world) leader() int {
	var l []int
	for _, id := range w.ids {
		if w.all[id].Role() == api.Leader {
			l = append(l, id)
		}
	}
	if len(l) == 0 || w.Intn(10) == 0 {
		return some(w.Rand, w.ids...)
	}
	return some(w.Rand, l...)
}

// deliver lets one of what was sent come, in any order; it may stay, to come again.
func (w *world) deliver() int {
	at := w.Intn(len(w.sent))
	if w.Intn(3) > 0 {
		at = min(at, w.Intn(8)) // mostly not so late
	}
	m := w.sent[at]
	if w.Intn(12) > 0 {
		w.sent = slices.Delete(w.sent, at, at+1)
	} else {
		w.count["doubled"]++
	}
	if m.To > len(w.ids) || w.cut[m.To] || w.cut[m.From] || w.Intn(25) == 0 {
		w.count["lost"]++
		return 0
	}
	w.all[m.To].Step(m)
	return m.To
}

// act lets one thing happen, and tells at which node, or 0.
func (w *world) act() int {
	id := w.leader()
	r := w.all[id]
	switch n := w.Intn(200); {
	case n < 130 && len(w.sent) > 0:
		return w.deliver()
	case n < 150:
		id = some(w.Rand, w.ids...)
		w.all[id].Tick(w.Intn(9) - 1)
	case n < 160:
		r.Tick(0)
	case n < 174:
		r.Propose(fmt.Appendf(nil, "%d at %d", w.Intn(1000), id))
	case n < 180:
		r.Change(w.Intn(3)+1, some(w.Rand, w.ids...))
	case n < 188:
		token := len(w.asked)
		w.asked[token] = w.most
		if r.Read(token) == api.OK {
			w.count["reads asked for"]++
		}
	case n < 191:
		id = some(w.Rand, w.ids...)
		w.cut[id] = !w.cut[id]
		return 0
	case n < 193:
		clear(w.cut[:])
		return 0
	case n < 195:
		id = some(w.Rand, w.ids...)
		w.start(id)
		w.count["restarts"]++
		return 0
	}
	return id
}

func (w *world) run(steps int) string {
	for range steps {
		id := w.act()
		// What is new may wait, and be lost: nothing of it was sent yet.
		if id == 0 || w.Intn(6) == 0 {
			continue
		}
		if w.Intn(60) == 0 {
			w.start(id)
			continue
		}
		if wrong := w.after(id); wrong != "" {
			return wrong
		}
		if w.Intn(25) == 0 {
			w.compact(id)
		}
	}
	return ""
}

func TestTheorem(t *testing.T) {
	t.Parallel()
	count := map[string]int{}
	for seed := range int64(2500) {
		if wrong := newWorld(seed, count).run(700); wrong != "" {
			t.Fatalf("seed %d: %s", seed, wrong)
		}
	}
	for what, least := range map[string]int{"leaders": 4000, "committed": 30000, "changes": 800, "reads": 2000, "installed": 300, "compacted": 3000, "restarts": 4000, "lost": 4000, "doubled": 4000} {
		if count[what] < least {
			t.Errorf("%s: only %d: %v", what, count[what], count)
		}
	}
}

// P12.7

// firstGroup is a group of the first nodes, so many of them voters.
func firstGroup(votes, learn int) api.Group {
	all := upTo(votes + learn)
	return api.Group{Voters: all[:votes:votes], Learners: all[votes:]}
}

// flow delivers all messages: in the order in which they were sent, or, if links is set, in that of each link alone.
func flow(r *rand.Rand, all *[16]*raft.Node, links bool) {
	type link struct{ from, to int }
	var queue []api.Msg
	collect := func() {
		for _, n := range all {
			if n != nil {
				queue = append(queue, n.Out().Msgs...)
			}
		}
	}
	for collect(); len(queue) > 0; collect() {
		at := 0
		if links {
			at = r.Intn(len(queue))
			l := link{queue[at].From, queue[at].To}
			at = slices.IndexFunc(queue, func(m api.Msg) bool { return l == link{m.From, m.To} })
		}
		m := queue[at]
		queue = slices.Delete(queue, at, at+1)
		all[m.To].Step(m)
	}
}

// elected lets one node alone tick until it runs, and all messages come.
func elected(t *testing.T, r *rand.Rand, g api.Group, id int, setting [2]int, links bool) *[16]*raft.Node {
	t.Helper()
	var all [16]*raft.Node
	for _, n := range slices.Concat(g.Voters, g.Learners) {
		var e api.Errno
		if all[n], e = raft.New(n, api.Hard{}, api.Snap{Group: g}, nil, setting); e != api.OK {
			t.Fatal(e)
		}
	}
	for range setting[0] {
		if all[id].Role() != api.Follower {
			t.Fatal("it ran too early")
		}
		all[id].Tick(r.Intn(100))
	}
	flow(r, &all, links)
	if all[id].Role() != api.Leader {
		t.Fatalf("node %d of %v, setting %v: role %d", id, g, setting, all[id].Role())
	}
	return &all
}

func TestWhoRunsLeads(t *testing.T) {
	r := rand.New(rand.NewSource(1))
	for votes := 1; votes <= 15; votes++ {
		for learn := range 16 - votes {
			if learn > 3 && learn < 15-votes {
				continue
			}
			g := firstGroup(votes, learn)
			for _, links := range []bool{false, true} {
				id := r.Intn(votes) + 1
				setting := [2]int{r.Intn(4) + 1, some(r, 1, 2, 64)}
				all := elected(t, r, g, id, setting, links)
				last := 1
				for n := range r.Intn(40) {
					i, e := all[id].Propose([]byte{byte(n)})
					if last++; i != last || e != api.OK {
						t.Fatalf("proposal %d: %d, error %d", n, i, e)
					}
				}
				flow(r, all, links)
				all[id].Tick(0)
				flow(r, all, links)
				wantAllCommitted(t, all, g, id, last)
			}
		}
	}
}

func wantAllCommitted(t *testing.T, all *[16]*raft.Node, g api.Group, id, last int) {
	t.Helper()
	asked := entriesText(all[id].Get(1, last+1))
	for _, n := range slices.Concat(g.Voters, g.Learners) {
		x := all[n]
		if x.Committed() != last || x.Leader() != id || x.Hard().Term != 1 || entriesText(x.Todo(last+1)) != asked {
			t.Fatalf("%v, node %d: %s", g, n, view(x))
		}
	}
}

// Proposals that come one by one, among other messages, are committed as well.
func TestProposalsOneByOne(t *testing.T) {
	r := rand.New(rand.NewSource(2))
	for votes := 1; votes <= 15; votes += 2 {
		g := firstGroup(votes, 15-votes)
		all := elected(t, r, g, 1, [2]int{2, some(r, 1, 3, 64)}, true)
		last := 1
		for range 60 {
			if i, e := all[1].Propose(longBytes(r.Intn(30))); e != api.OK || i != last+1 {
				t.Fatal(i, e)
			}
			last++
			for _, m := range all[1].Out().Msgs {
				all[m.To].Step(m)
			}
		}
		flow(r, all, true)
		all[1].Tick(0)
		flow(r, all, true)
		wantAllCommitted(t, all, g, 1, last)
	}
}
