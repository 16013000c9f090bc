package elect

import (
	"math"
	"slices"
	"testing"

	"jetway/api"
)

// P10.2

func TestTickExamples(t *testing.T) {
	n, e := New(1, api.Hard{}, voters(1), 2)
	want(t, "New", e, api.OK)
	if l := n.Tick(0, 0, 0); len(l) != 0 || look(n) != (view{}) {
		t.Errorf("the first Tick: %v, %+v", l, look(n))
	}
	if l := n.Tick(0, 0, 0); len(l) != 0 || look(n) != (view{api.Hard{Term: 1, Vote: 1}, api.Leader, 1}) {
		t.Errorf("the second Tick: %v, %+v", l, look(n))
	}
	n, e = New(1, api.Hard{}, voters(1, 2, 3), 2)
	want(t, "New", e, api.OK)
	n.Tick(0, 0, 0)
	asked := []api.Ballot{{Kind: api.Pre, From: 1, To: 2, Term: 1}, {Kind: api.Pre, From: 1, To: 3, Term: 1}}
	if l := n.Tick(0, 0, 0); !slices.Equal(l, asked) || look(n) != (view{role: api.Hopeful}) {
		t.Errorf("in a group of three: %v, %+v", l, look(n))
	}
}

func TestTick(t *testing.T) {
	three, five := voters(1, 2, 3), voters(1, 2, 3, 4, 5)
	h := api.Hard{Term: 5}
	wantScenes(t, []scene{
		{"ahead of its limit", fresh(three, 5), tick(0), told{}, view{h, api.Follower, 0}},
		{"with a leader", following(three, 5), tick(0), told{}, view{h, api.Follower, 2}},
		{"its leader is forgotten", following(three, 5).then(tick(0)), tick(0), told{ballots: asks(1, api.Pre, 6, 0, 0, 2, 3)}, view{h, api.Hopeful, 0}},
		{"its vote is not", voted(three, 5, 3).then(tick(0)), tick(0), told{ballots: asks(1, api.Pre, 6, 0, 0, 2, 3)}, view{api.Hard{Term: 5, Vote: 3}, api.Hopeful, 0}},
		{"the end of its log", fresh(three, 5).then(tickAt(0, 9, 9)), tickAt(0, 8, 4), told{ballots: asks(1, api.Pre, 6, 8, 4, 2, 3)}, view{h, api.Hopeful, 0}},
		{"whatever it is", fresh(three, 5).then(tick(0)), tickAt(0, math.MinInt, math.MaxInt), told{ballots: asks(1, api.Pre, 6, math.MinInt, math.MaxInt, 2, 3)}, view{h, api.Hopeful, 0}},
		{"hopeful, ahead of its limit", hopeful(three, 5), tick(0), told{}, view{h, api.Hopeful, 0}},
		{"hopeful again", hopeful(three, 5).then(tick(0)), tick(0), told{ballots: asks(1, api.Pre, 6, 0, 0, 2, 3)}, view{h, api.Hopeful, 0}},
		{"a yes of the time before is forgotten", hopeful(five, 5).then(yesOf(api.PreSay, 2, 6)).then(ticks(2)...), yesOf(api.PreSay, 3, 6), told{}, view{h, api.Hopeful, 0}},
		{"and so is a no", hopeful(three, 5).then(noOf(api.PreSay, 2, 5)).then(ticks(2)...), yesOf(api.PreSay, 2, 6), told{ballots: asks(1, api.Ask, 6, 0, 0, 2, 3)}, view{api.Hard{Term: 6, Vote: 1}, api.Candidate, 0}},
		{"a candidate, ahead of its limit", candidate(three, 5), tick(0), told{}, view{api.Hard{Term: 5, Vote: 1}, api.Candidate, 0}},
		{"a candidate is hopeful again", candidate(three, 5).then(tick(0)), tick(0), told{ballots: asks(1, api.Pre, 6, 0, 0, 2, 3)}, view{api.Hard{Term: 5, Vote: 1}, api.Hopeful, 0}},
		{"who said yes to it does not say so to the Pre", candidate(three, 5).then(ticks(2)...), yesOf(api.Say, 2, 5), told{}, view{api.Hard{Term: 5, Vote: 1}, api.Hopeful, 0}},
		{"one of two", fresh(voters(1, 15), 5).then(tick(0)), tick(0), told{ballots: asks(1, api.Pre, 6, 0, 0, 15)}, view{h, api.Hopeful, 0}},
		{"learners are not asked", fresh(api.Group{Voters: []int{1, 4}, Learners: []int{2, 3, 15}}, 5).then(tick(0)), tick(0), told{ballots: asks(1, api.Pre, 6, 0, 0, 4)}, view{h, api.Hopeful, 0}},
		{"all of fifteen", fresh(voters(upTo(15)...), 5).then(tick(0)), tick(0), told{ballots: asks(1, api.Pre, 6, 0, 0, upTo(15)[1:]...)}, view{h, api.Hopeful, 0}},
		{"alone with learners", fresh(api.Group{Voters: []int{1}, Learners: []int{2, 3}}, 5).then(tick(0)), tick(0), told{}, view{api.Hard{Term: 6, Vote: 1}, api.Leader, 1}},
		{"alone, having voted for another", voted(voters(1), 5, 9).then(tick(0)), tick(0), told{}, view{api.Hard{Term: 6, Vote: 1}, api.Leader, 1}},
	})
}

// Each node asks the others in ascending order.
func TestTickAsksTheOtherVoters(t *testing.T) {
	for _, g := range goodGroups() {
		for _, id := range g.Voters {
			n := history{id: id, group: g, patience: 1}.node(t)
			others := slices.DeleteFunc(slices.Clone(g.Voters), func(v int) bool { return v == id })
			if l := n.Tick(3, 7, 2); !slices.Equal(l, asks(id, api.Pre, 1, 7, 2, others...)) {
				t.Errorf("%d of %v: %v", id, g, l)
			}
			asked := view{role: api.Hopeful}
			if len(others) == 0 {
				asked = view{api.Hard{Term: 1, Vote: id}, api.Leader, id}
			}
			if look(n) != asked {
				t.Errorf("%d of %v is %+v", id, g, look(n))
			}
		}
	}
}

func TestTickOfALeader(t *testing.T) {
	for _, h := range []history{
		fresh(voters(1), 5).then(ticks(2)...),
		leading(voters(1, 2), 5),
		leading(voters(1, 2, 3), 5),
		leading(voters(upTo(15)...), 5),
		leading(voters(1, 2, 3), 5).then(join(voters(2))),
	} {
		for _, draw := range []int{math.MinInt, -1, 0, 1, 2, 3, math.MaxInt} {
			wantNothing(t, h, tickAt(draw, 3, 3))
		}
		so := h.then(ticks(7)...)
		wantFutures(t, so, h.plain(t))
	}
}

// The first limit is the patience; the ones that follow hang on the draws.
func TestTickWaits(t *testing.T) {
	for _, c := range []struct{ patience, draw, limit int }{
		{1, -1, 1}, {1, 0, 1}, {1, 1, 1}, {1, 7, 1}, {1, math.MaxInt, 1}, {1, math.MinInt, 1},
		{2, -1, 2}, {2, -3, 2}, {2, 0, 2}, {2, 1, 3}, {2, 2, 2}, {2, 3, 3}, {2, math.MaxInt, 3}, {2, math.MinInt, 2},
		{5, math.MinInt, 5}, {5, -6, 5}, {5, -5, 5}, {5, -4, 5}, {5, -1, 5}, {5, 0, 5}, {5, 1, 6}, {5, 4, 9}, {5, 5, 5}, {5, 6, 6}, {5, 9, 9}, {5, 10, 5}, {5, math.MaxInt, 7}, {5, 1 << 40, 6},
		{1000, -1, 1000}, {1000, 0, 1000}, {1000, 1, 1001}, {1000, 999, 1999}, {1000, 1000, 1000}, {1000, 1001, 1001}, {1000, math.MaxInt, 1807},
	} {
		n := history{id: 1, group: voters(1, 2, 3), patience: c.patience}.node(t)
		// Three times, so that the time it has waited is seen to begin anew.
		for i, limit := range []int{c.patience, c.limit, c.limit} {
			for tick := 1; tick <= limit; tick++ {
				if l := n.Tick(c.draw, 0, 0); len(l) > 0 != (tick == limit) {
					t.Fatalf("patience %d, draw %d: time %d, tick %d of %d: %v", c.patience, c.draw, i, tick, limit, l)
				}
			}
		}
	}
}

// A draw ahead of the limit is told nothing of.
func TestTickDrawsAtTheLimit(t *testing.T) {
	h := history{id: 1, group: voters(1, 2, 3), patience: 3}
	other := h.then(tick(0), tick(0), tick(2))
	h = h.then(tick(2), tick(1), tick(2))
	wantFutures(t, h, other.plain(t))
}

func TestTickOfNoVoter(t *testing.T) {
	for _, g := range []api.Group{
		{Voters: []int{2}, Learners: []int{1}},
		{Voters: []int{2, 3, 4}, Learners: []int{1, 5}},
		voters(2),
		voters(2, 3, 15),
		{Voters: []int{2}, Learners: []int{3}},
		voters(upTo(15)[1:]...),
	} {
		h := fresh(g, 5)
		n, p := h.node(t), h.plain(t)
		for i := range 100 {
			p = wantCall(t, h, n, p, tick(i))
		}
		if look(n) != (view{hard: api.Hard{Term: 5}}) {
			t.Errorf("%v: it is %+v", g, look(n))
		}
		// It has waited all the same: so it says yes to a Pre though it has a leader, but not ahead of its patience.
		for waited := range 5 {
			n := h.then(heard(2, 5)).then(ticks(waited)...).node(t)
			l := n.Take(ballot(api.Pre, 3, 6, false), 0, 0)
			if len(l) != 1 || l[0].Yes != (waited >= 2) || n.Leader() != 2 {
				t.Errorf("%v: after %d ticks: %v, leader %d", g, waited, l, n.Leader())
			}
		}
		// And as a voter it does not begin to wait.
		wantScenes(t, []scene{
			{"a voter now", h.then(ticks(1)...).then(join(voters(1, 2))), tick(0), told{ballots: asks(1, api.Pre, 6, 0, 0, 2)}, view{api.Hard{Term: 5}, api.Hopeful, 0}},
			{"a voter now, long behind", h.then(ticks(20)...).then(join(voters(1))), tick(0), told{}, view{api.Hard{Term: 6, Vote: 1}, api.Leader, 1}},
		})
	}
}

// At the term 2^40, of which there is no next one, a node that should run does not.
func TestTickAtTheLastTerm(t *testing.T) {
	last := api.Hard{Term: top}
	three := voters(1, 2, 3)
	wantScenes(t, []scene{
		{"alone, at the last but one", fresh(voters(1), top-1).then(tick(0)), tick(0), told{}, view{api.Hard{Term: top, Vote: 1}, api.Leader, 1}},
		{"alone", fresh(voters(1), top).then(tick(0)), tick(0), told{}, view{last, api.Follower, 0}},
		{"alone, again", fresh(voters(1), top).then(ticks(3)...), tick(0), told{}, view{last, api.Follower, 0}},
		{"alone, having voted", voted(voters(1), top, 4).then(tick(0)), tick(0), told{}, view{api.Hard{Term: top, Vote: 4}, api.Follower, 0}},
		{"alone, behind a leader", following(voters(1), top).then(tick(0)), tick(0), told{}, view{last, api.Follower, 0}},
		{"alone, with a draw", fresh(voters(1), top).then(tick(0), tick(1), tick(0), tick(0)), tick(0), told{}, view{last, api.Follower, 0}},
		{"one of three", fresh(three, top).then(tick(0)), tick(0), told{ballots: asks(1, api.Pre, top+1, 0, 0, 2, 3)}, view{last, api.Hopeful, 0}},
		{"one of three, at the last but one", fresh(three, top-1).then(tick(0)), tick(0), told{ballots: asks(1, api.Pre, top, 0, 0, 2, 3)}, view{api.Hard{Term: top - 1}, api.Hopeful, 0}},
		{"elected for the last one", hopeful(three, top-1), yesOf(api.PreSay, 2, top), told{ballots: asks(1, api.Ask, top, 0, 0, 2, 3)}, view{api.Hard{Term: top, Vote: 1}, api.Candidate, 0}},
		{"candidate of the last one", hopeful(three, top-1).then(yesOf(api.PreSay, 2, top)).then(ticks(1)...), tick(0), told{ballots: asks(1, api.Pre, top+1, 0, 0, 2, 3)}, view{api.Hard{Term: top, Vote: 1}, api.Hopeful, 0}},
		{"a yes for no term", hopeful(three, top), yesOf(api.PreSay, 2, top+1), told{}, view{last, api.Hopeful, 0}},
		{"a no", hopeful(three, top).then(noOf(api.PreSay, 2, top)), noOf(api.PreSay, 3, top), told{}, view{last, api.Follower, 0}},
		{"should run as the group has but it", hopeful(three, top).then(join(voters(1))), noOf(api.PreSay, 2, top), told{}, view{last, api.Follower, 0}},
		{"leader of the last one", leading(three, top), tick(0), told{}, view{api.Hard{Term: top, Vote: 1}, api.Leader, 1}},
	})
}
