package elect

import (
	"fmt"
	"math/rand"
	"slices"
	"testing"

	"jetway/api"
)

// P10.5 by itself: here nodes are held against each other, not against the second reading.

// world are the nodes of one group, what they have sent, and what was seen of them.
type world struct {
	script
	group    api.Group
	nodes    [16]*Node // nil: none of the group
	logs     [16][2]int
	patience int
	sent     []api.Ballot
	terms    [16]int
	votes    map[[2]int]int // by node and term
	leaders  map[int]int    // by term
	runs     map[int]int    // how many were candidates, by term
	restart  func(h api.Hard) api.Hard
}

func newWorld(seed int64, g api.Group) *world {
	w := &world{script: script{rand.New(rand.NewSource(seed))}, group: g, votes: map[[2]int]int{}, leaders: map[int]int{}, runs: map[int]int{}}
	w.patience = w.Intn(3) + 1
	w.restart = func(h api.Hard) api.Hard { return h }
	for _, id := range slices.Concat(g.Voters, g.Learners) {
		w.nodes[id], _ = New(id, api.Hard{}, g, w.patience)
		if w.Intn(2) == 0 {
			w.logs[id] = [2]int{w.Intn(3), w.Intn(2)}
		}
	}
	return w
}

// member draws a node of the group.
func (w *world) member() int {
	all := slices.Concat(w.group.Voters, w.group.Learners)
	return all[w.Intn(len(all))]
}

// note says what the theorem rules out of what a node is now, or nothing.
func (w *world) note(id int) string {
	n := w.nodes[id]
	h := n.Hard()
	if h.Term < w.terms[id] {
		return fmt.Sprintf("the term of %d was %d, and is %d", id, w.terms[id], h.Term)
	}
	w.terms[id] = h.Term
	if old := w.votes[[2]int{id, h.Term}]; old != 0 && old != h.Vote {
		return fmt.Sprintf("the vote of %d in the term %d was %d, and is %d", id, h.Term, old, h.Vote)
	}
	if n.Role() == api.Candidate && w.votes[[2]int{id, h.Term}] == 0 {
		w.runs[h.Term]++
	}
	w.votes[[2]int{id, h.Term}] = h.Vote
	if n.Role() != api.Leader {
		return ""
	}
	if n.Leader() != id {
		return fmt.Sprintf("%d is Leader, and takes %d for it", id, n.Leader())
	}
	if old := w.leaders[h.Term]; old != 0 && old != id {
		return fmt.Sprintf("%d and %d are leaders of the term %d", old, id, h.Term)
	}
	w.leaders[h.Term] = id
	return ""
}

func (w *world) tick(id int) {
	w.sent = append(w.sent, w.nodes[id].Tick(w.Intn(9)-1, w.logs[id][0], w.logs[id][1])...)
}

// deliver lets one of what was sent come, in any order; it may stay, to come again.
func (w *world) deliver(stays bool) int {
	at := w.Intn(len(w.sent))
	b := w.sent[at]
	if !stays {
		w.sent = slices.Delete(w.sent, at, at+1)
	}
	w.sent = append(w.sent, w.nodes[b.To].Take(b, w.logs[b.To][0], w.logs[b.To][1])...)
	return b.To
}

// step lets one thing happen, and tells at which node, or 0.
func (w *world) step() int {
	switch n := w.Intn(100); {
	case n < 65 && len(w.sent) > 0:
		return w.deliver(w.Intn(10) == 0)
	case n < 70 && len(w.sent) > 0:
		at := w.Intn(len(w.sent))
		w.sent = slices.Delete(w.sent, at, at+1)
		return 0
	case n < 74:
		id := w.member()
		w.nodes[id], _ = New(id, w.restart(w.nodes[id].Hard()), w.group, w.patience)
		return id
	case n < 77 && len(w.leaders) > 0:
		// A message of a leader, of any term, may be long on its way.
		id, term := w.member(), w.Intn(slices.Max(w.terms[:])+1)
		if from := w.leaders[term]; from != 0 {
			w.nodes[id].Heard(from, term)
		}
		return id
	case n < 79:
		id := w.member()
		w.logs[id] = [2]int{w.logs[id][0] + 1, w.nodes[id].Hard().Term}
		return id
	}
	id := w.member()
	w.tick(id)
	return id
}

func (w *world) run(steps int) string {
	for range steps {
		if id := w.step(); id > 0 {
			if wrong := w.note(id); wrong != "" {
				return wrong
			}
		}
	}
	return ""
}

func fewGroups() []api.Group {
	return []api.Group{
		voters(1), voters(1, 2), voters(1, 2, 3), voters(3, 9, 15), voters(1, 2, 3, 4), voters(1, 2, 3, 4, 5),
		{Voters: []int{2, 3}, Learners: []int{1}},
		{Voters: []int{1, 2, 3}, Learners: []int{4, 15}},
	}
}

func TestOneLeaderATerm(t *testing.T) {
	led, rivals := 0, 0
	for i, g := range fewGroups() {
		for seed := range int64(250) {
			w := newWorld(seed*100+int64(i), g)
			if wrong := w.run(600); wrong != "" {
				t.Fatalf("%v, seed %d: %s", g, seed, wrong)
			}
			led += len(w.leaders)
			for _, many := range w.runs {
				if many > 1 {
					rivals++
				}
			}
		}
	}
	if led < 5000 || rivals < 400 {
		t.Errorf("%d terms had leaders, %d rivals", led, rivals)
	}
}

// Nodes that forget their votes, or their terms, elect two: so the test above can see it.
func TestForgetfulNodesElectTwo(t *testing.T) {
	for what, restart := range map[string]func(h api.Hard) api.Hard{
		"votes": func(h api.Hard) api.Hard { return api.Hard{Term: h.Term} },
		"all":   func(h api.Hard) api.Hard { return api.Hard{} },
	} {
		seen := 0
		for seed := range int64(300) {
			w := newWorld(seed, voters(1, 2, 3))
			w.restart = restart
			for range 600 {
				if id := w.step(); id > 0 {
					old := w.leaders[w.nodes[id].Hard().Term]
					w.terms[id], w.votes = 0, map[[2]int]int{}
					if w.note(id) != "" && old != 0 && old != id {
						seen++
						break
					}
				}
			}
		}
		if seen == 0 {
			t.Errorf("%s: there was one leader a term all the same", what)
		}
	}
}

// settle delivers all that was sent, in any order, some of it twice, till nothing is left.
func (w *world) settle() {
	for len(w.sent) > 0 {
		w.deliver(w.Intn(6) == 0)
	}
}

// notNewer counts the voters whose logs are not newer than that of a node.
func (w *world) notNewer(than int) int {
	n := 0
	for _, v := range w.group.Voters {
		mine, its := w.logs[than], w.logs[v]
		if its[1] < mine[1] || its[1] == mine[1] && its[0] <= mine[0] {
			n++
		}
	}
	return n
}

// In a new group in which one node alone ticks, and all is delivered, it is elected if most logs are not newer, and never if not.
func TestWhoAloneTicksIsElectedByMost(t *testing.T) {
	seen := map[bool]int{}
	for _, g := range append(fewGroups(), goodGroups()...) {
		for seed := range int64(120) {
			w := newWorld(seed, g)
			w.patience = []int{1, 2, 3, 30}[w.Intn(4)]
			for _, id := range slices.Concat(g.Voters, g.Learners) {
				w.nodes[id], _ = New(id, api.Hard{}, g, w.patience)
				w.logs[id] = [2]int{w.Intn(3), w.Intn(3)}
			}
			id := g.Voters[w.Intn(len(g.Voters))]
			elected := 2*w.notNewer(id) > len(g.Voters)
			seen[elected]++
			for i := 1; i <= 3*w.patience; i++ {
				w.tick(id)
				w.settle()
				if leads := w.nodes[id].Role() == api.Leader; leads != (elected && i >= w.patience) {
					t.Fatalf("%v, seed %d: %d, of the logs %v: Leader %t after %d ticks of patience %d", g, seed, id, w.logs, leads, i, w.patience)
				}
			}
			for other, n := range w.nodes {
				if n != nil && other != id && n.Role() != api.Follower {
					t.Fatalf("%v, seed %d: %d has the role %d, and did not tick", g, seed, other, n.Role())
				}
			}
			asked := api.Hard{}
			if elected {
				asked = api.Hard{Term: 1, Vote: id}
			}
			if w.nodes[id].Hard() != asked {
				t.Fatalf("%v, seed %d: %d is of %v", g, seed, id, w.nodes[id].Hard())
			}
		}
	}
	if seen[true] < 500 || seen[false] < 300 {
		t.Errorf("elected or not: %v", seen)
	}
}

func TestALearnerThatAloneTicksIsNotElected(t *testing.T) {
	for _, g := range []api.Group{{Voters: []int{1}, Learners: []int{2}}, {Voters: []int{1, 2, 3}, Learners: []int{4}}} {
		w := newWorld(1, g)
		id := g.Learners[0]
		for range 50 {
			w.tick(id)
			w.settle()
			if n := w.nodes[id]; n.Role() != api.Follower || n.Hard() != (api.Hard{}) {
				t.Fatalf("%v: %d is %+v", g, id, look(n))
			}
		}
	}
}

// A node that was cut off, and comes back, does not disturb a leader that the others hear.
func TestWhoWasCutOffDoesNotDisturb(t *testing.T) {
	for seed := range int64(50) {
		g := voters(1, 2, 3)
		w := newWorld(seed, g)
		w.logs = [16][2]int{}
		for range w.patience {
			w.tick(1)
		}
		w.settle()
		for range 20 {
			w.tick(3)
		}
		w.nodes[2].Heard(1, 1)
		w.nodes[1].Tick(0, 0, 0)
		w.settle()
		if look(w.nodes[1]) != (view{api.Hard{Term: 1, Vote: 1}, api.Leader, 1}) {
			t.Fatalf("seed %d: the leader is %+v", seed, look(w.nodes[1]))
		}
	}
}
