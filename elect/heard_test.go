package elect

import (
	"math"
	"testing"

	"jetway/api"
)

// P10.4

func TestHeard(t *testing.T) {
	three := voters(1, 2, 3)
	yes := told{yes: true}
	wantScenes(t, []scene{
		{"of its term", fresh(three, 5), heard(2, 5), yes, view{api.Hard{Term: 5}, api.Follower, 2}},
		{"of a greater one", fresh(three, 5), heard(3, 6), yes, view{api.Hard{Term: 6}, api.Follower, 3}},
		{"of a lesser one", fresh(three, 5), heard(3, 4), told{}, view{api.Hard{Term: 5}, api.Follower, 0}},
		{"its vote stays in its term", voted(three, 5, 3), heard(2, 5), yes, view{api.Hard{Term: 5, Vote: 3}, api.Follower, 2}},
		{"and is gone in a greater one", voted(three, 5, 3), heard(2, 6), yes, view{api.Hard{Term: 6}, api.Follower, 2}},
		{"its vote for itself stays, too", candidate(three, 5), heard(2, 5), yes, view{api.Hard{Term: 5, Vote: 1}, api.Follower, 2}},
		{"it has a leader, the same", following(three, 5), heard(2, 5), yes, view{api.Hard{Term: 5}, api.Follower, 2}},
		{"another one", following(three, 5), heard(3, 5), yes, view{api.Hard{Term: 5}, api.Follower, 3}},
		{"another one, of a greater term", following(three, 5), heard(3, 9), yes, view{api.Hard{Term: 9}, api.Follower, 3}},
		{"hopeful", hopeful(three, 5), heard(2, 5), yes, view{api.Hard{Term: 5}, api.Follower, 2}},
		{"hopeful, a lesser term", hopeful(three, 5), heard(2, 4), told{}, view{api.Hard{Term: 5}, api.Hopeful, 0}},
		{"hopeful, a greater term", hopeful(three, 5), heard(2, 6), yes, view{api.Hard{Term: 6}, api.Follower, 2}},
		{"candidate, a lesser term", candidate(three, 5), heard(2, 4), told{}, view{api.Hard{Term: 5, Vote: 1}, api.Candidate, 0}},
		{"candidate, a greater term", candidate(three, 5), heard(2, 6), yes, view{api.Hard{Term: 6}, api.Follower, 2}},
		{"leader", leading(three, 5), heard(2, 5), told{}, view{api.Hard{Term: 5, Vote: 1}, api.Leader, 1}},
		{"leader, a lesser term", leading(three, 5), heard(2, 4), told{}, view{api.Hard{Term: 5, Vote: 1}, api.Leader, 1}},
		{"leader, a greater term", leading(three, 5), heard(2, 6), yes, view{api.Hard{Term: 6}, api.Follower, 2}},
		{"of a node that is no voter", fresh(three, 5), heard(15, 5), yes, view{api.Hard{Term: 5}, api.Follower, 15}},
		{"as a learner", fresh(api.Group{Voters: []int{2}, Learners: []int{1}}, 5), heard(2, 7), yes, view{api.Hard{Term: 7}, api.Follower, 2}},
		{"as none of the group", fresh(voters(2), 5), heard(2, 5), yes, view{api.Hard{Term: 5}, api.Follower, 2}},
		{"term 0", fresh(three, 0), heard(2, 0), yes, view{api.Hard{}, api.Follower, 2}},
		{"term 0, behind", fresh(three, 1), heard(2, 0), told{}, view{api.Hard{Term: 1}, api.Follower, 0}},
		{"the last term", fresh(three, 0), heard(2, top), yes, view{api.Hard{Term: top}, api.Follower, 2}},
		{"the last term, as its own", voted(three, top, 3), heard(2, top), yes, view{api.Hard{Term: top, Vote: 3}, api.Follower, 2}},
		{"the last but one, behind", fresh(three, top), heard(2, top-1), told{}, view{api.Hard{Term: top}, api.Follower, 0}},
	})
	n := history{id: 15, group: three, patience: 2}.node(t)
	if !n.Heard(1, 3) || look(n) != (view{api.Hard{Term: 3}, api.Follower, 1}) {
		t.Errorf("node 15 is %+v", look(n))
	}
}

// It has not waited any more.
func TestHeardWaits(t *testing.T) {
	three := voters(1, 2, 3)
	for _, term := range []int{5, 6} {
		for waited := range 5 {
			h := history{id: 1, hard: api.Hard{Term: 5}, group: three, patience: 5}.then(ticks(waited)...).then(heard(2, term))
			n := h.node(t)
			for i := 1; i <= 5; i++ {
				if l := n.Tick(0, 0, 0); len(l) > 0 != (i == 5) {
					t.Errorf("%v: tick %d: %v", h, i, l)
				}
			}
		}
		// One that does not count lets it wait on.
		h := fresh(three, 5).then(tick(0), heard(2, 4))
		if l := h.node(t).Tick(0, 0, 0); len(l) != 2 {
			t.Errorf("%v: %v", h, l)
		}
	}
	// Nor does it change how long it will wait.
	h := history{id: 1, group: three, patience: 3}.then(ticks(2)...).then(tick(2), heard(2, 0))
	n := h.node(t)
	for i := 1; i <= 5; i++ {
		if l := n.Tick(0, 0, 0); len(l) > 0 != (i == 5) {
			t.Errorf("%v: tick %d: %v", h, i, l)
		}
	}
}

func TestHeardOfWrongArguments(t *testing.T) {
	three := voters(1, 2, 3)
	for _, h := range []history{
		fresh(three, 5), following(three, 5).then(tick(0)), hopeful(three, 5), candidate(three, 5), leading(three, 5),
		fresh(three, 5).then(tick(0)), fresh(three, top), fresh(three, 0),
	} {
		term := h.node(t).Hard().Term
		for _, from := range []int{math.MinInt, -1, 0, 1, 16, 17, math.MaxInt} {
			for _, at := range []int{-1, 0, term - 1, term, term + 1, top, top + 1} {
				wantNothing(t, h, heard(from, at))
			}
		}
		for _, at := range []int{math.MinInt, -1, term - 1, top + 1, math.MaxInt} {
			wantNothing(t, h, heard(2, at))
			wantNothing(t, h, heard(15, at))
		}
	}
	wantNothing(t, leading(three, 5), heard(2, 5))
	wantNothing(t, leading(three, top), heard(3, top))
	wantNothing(t, fresh(voters(1), 5).then(ticks(2)...), heard(3, 6))
	h := history{id: 15, group: voters(14, 15), patience: 1}
	wantNothing(t, h, heard(15, 3))
}
