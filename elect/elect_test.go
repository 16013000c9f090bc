package elect

import (
	"math"
	"slices"
	"testing"

	"jetway/api"
)

func want(t *testing.T, what string, e, asked api.Errno) {
	t.Helper()
	if e != asked {
		t.Fatalf("%s: error %d, want %d", what, e, asked)
	}
}

// far are numbers that are no nodes, and near the ends of what is one.
var far = []int{math.MinInt, math.MinInt + 1, -16, -1, 0, 1, 15, 16, 17, 1000, top - 1, top, top + 1, math.MaxInt - 1, math.MaxInt}

// wrongGroups are groups that are not valid.
func wrongGroups() map[string]api.Group {
	return map[string]api.Group{
		"none":               {},
		"empty lists":        {Voters: []int{}, Learners: []int{}},
		"learners alone":     {Learners: []int{1, 2}},
		"voter 0":            {Voters: []int{0, 1, 2}},
		"voter 16":           {Voters: []int{1, 2, 16}},
		"voter -1":           {Voters: []int{-1, 1}},
		"voters fall":        {Voters: []int{2, 1}},
		"voter twice":        {Voters: []int{1, 1}},
		"learner 0":          {Voters: []int{1}, Learners: []int{0}},
		"learner 16":         {Voters: []int{1}, Learners: []int{16}},
		"learner -1":         {Voters: []int{1}, Learners: []int{-1, 2}},
		"learners fall":      {Voters: []int{1}, Learners: []int{3, 2}},
		"learner twice":      {Voters: []int{1}, Learners: []int{2, 2}},
		"in both":            {Voters: []int{1, 2}, Learners: []int{2}},
		"in both, the first": {Voters: []int{1, 2, 3}, Learners: []int{1, 4}},
		"sixteen voters":     {Voters: append(upTo(15), 16)},
		"least and greatest": {Voters: []int{math.MinInt, math.MaxInt}},
	}
}

// goodGroups are such as the document names: of one voter, of two, of three and of fifteen, with and without learners.
func goodGroups() []api.Group {
	return []api.Group{
		voters(1),
		voters(15),
		voters(1, 2),
		voters(1, 2, 3),
		voters(2, 8, 15),
		voters(upTo(15)...),
		{Voters: []int{1}, Learners: []int{2, 15}},
		{Voters: []int{1, 2}, Learners: []int{3}},
		{Voters: []int{1, 2, 3}, Learners: []int{4, 5}},
		{Voters: []int{2, 3}, Learners: []int{1, 15}},
		{Voters: upTo(14), Learners: []int{15}},
		{Voters: []int{15}, Learners: upTo(14)},
	}
}

// P10.1, New

func TestNew(t *testing.T) {
	for _, g := range goodGroups() {
		for _, id := range []int{1, 2, 7, 15} {
			for _, h := range []api.Hard{{}, {Term: 3}, {Term: 3, Vote: 1}, {Term: 3, Vote: 15}, {Term: 0, Vote: 2}, {Term: top}, {Term: top, Vote: 15}} {
				for _, patience := range []int{1, 2, 7} {
					n, e := New(id, h, g, patience)
					want(t, "New", e, api.OK)
					if look(n) != (view{h, api.Follower, 0}) {
						t.Fatalf("New(%d, %v, %v, %d) is %+v", id, h, g, patience, look(n))
					}
					wantLike(t, history{id: id, hard: h, group: g, patience: patience})
				}
			}
		}
	}
}

func TestNewOfWrongArguments(t *testing.T) {
	refused := func(what string, id int, h api.Hard, g api.Group, patience int) {
		t.Helper()
		if n, e := New(id, h, g, patience); n != nil || e != api.ErrArg {
			t.Errorf("%s: New(%d, %v, %v, %d): %v, error %d", what, id, h, g, patience, n, e)
		}
	}
	three := voters(1, 2, 3)
	for _, id := range far {
		if id != 1 && id != 15 {
			refused("id", id, api.Hard{}, three, 2)
		}
	}
	for _, patience := range []int{math.MinInt, -1, 0, 1001, 1002, top, math.MaxInt} {
		refused("patience", 1, api.Hard{}, three, patience)
	}
	for _, h := range []api.Hard{
		{Term: -1}, {Term: top + 1}, {Term: math.MinInt}, {Term: math.MaxInt},
		{Vote: -1}, {Vote: 16}, {Vote: math.MinInt}, {Vote: math.MaxInt},
		{Term: -1, Vote: 16}, {Term: top + 1, Vote: -1},
	} {
		refused("hard state", 1, h, three, 2)
	}
	for what, g := range wrongGroups() {
		refused(what, 1, api.Hard{}, g, 2)
		refused(what+", and the rest", 0, api.Hard{Term: -1}, g, 0)
	}
	refused("id and hard state", 16, api.Hard{Term: -1}, three, 2)
	refused("id and patience", -1, api.Hard{}, three, 1001)
	refused("hard state and patience", 1, api.Hard{Vote: 16}, three, 0)
}

func TestPatience(t *testing.T) {
	for _, patience := range []int{1, 2, 3, 999, 1000} {
		n := history{id: 1, group: voters(1, 2), patience: patience}.node(t)
		for i := 1; i < patience; i++ {
			if l := n.Tick(0, 0, 0); l != nil || n.Role() != api.Follower {
				t.Fatalf("patience %d: tick %d: %v", patience, i, l)
			}
		}
		if l := n.Tick(0, 0, 0); len(l) != 1 || n.Role() != api.Hopeful {
			t.Fatalf("patience %d: the last tick: %v", patience, l)
		}
	}
}

// P10.1, Join

func TestJoin(t *testing.T) {
	three, five := voters(1, 2, 3), voters(1, 2, 3, 4, 5)
	wantScenes(t, []scene{
		{"a follower", following(three, 5), join(voters(2, 3)), told{}, view{api.Hard{Term: 5}, api.Follower, 2}},
		{"a hopeful node", hopeful(three, 5), join(voters(1)), told{}, view{api.Hard{Term: 5}, api.Hopeful, 0}},
		{"a candidate", candidate(three, 5), join(five), told{}, view{api.Hard{Term: 5, Vote: 1}, api.Candidate, 0}},
		{"a leader that is no voter any more", leading(three, 5), join(voters(2, 3)), told{}, view{api.Hard{Term: 5, Vote: 1}, api.Leader, 1}},
		{"one that has voted", voted(three, 5, 3), join(voters(2)), told{}, view{api.Hard{Term: 5, Vote: 3}, api.Follower, 0}},
	})
	wantScenes(t, []scene{
		{"new voters are asked", fresh(three, 5).then(join(voters(1, 4, 15)), tick(0)), tickAt(0, 8, 3), told{ballots: asks(1, api.Pre, 6, 8, 3, 4, 15)}, view{api.Hard{Term: 5}, api.Hopeful, 0}},
		{"in the vote, too", hopeful(three, 5).then(join(five), yesOf(api.PreSay, 2, 6)), yesOf(api.PreSay, 5, 6), told{ballots: asks(1, api.Ask, 6, 0, 0, 2, 3, 4, 5)}, view{api.Hard{Term: 6, Vote: 1}, api.Candidate, 0}},
		{"alone now", fresh(three, 5).then(join(voters(1)), tick(0)), tick(0), told{}, view{api.Hard{Term: 6, Vote: 1}, api.Leader, 1}},
		{"a voter no more", fresh(three, 5).then(join(api.Group{Voters: []int{2}, Learners: []int{1}})).then(ticks(9)...), tick(0), told{}, view{api.Hard{Term: 5}, api.Follower, 0}},
		{"not there any more", fresh(three, 5).then(join(voters(2, 3))).then(ticks(9)...), tick(0), told{}, view{api.Hard{Term: 5}, api.Follower, 0}},
		{"a voter at last", fresh(voters(2, 3), 5).then(ticks(9)...).then(join(voters(1, 2))), tick(0), told{ballots: asks(1, api.Pre, 6, 0, 0, 2)}, view{api.Hard{Term: 5}, api.Hopeful, 0}},
		{"fewer are a majority, at the next answer, which it has", hopeful(five, 5).then(yesOf(api.PreSay, 2, 6), join(three)), yesOf(api.PreSay, 2, 6), told{ballots: asks(1, api.Ask, 6, 0, 0, 2, 3)}, view{api.Hard{Term: 6, Vote: 1}, api.Candidate, 0}},
		{"and at one that is no", hopeful(five, 5).then(yesOf(api.PreSay, 2, 6), join(three)), noOf(api.PreSay, 2, 5), told{ballots: asks(1, api.Ask, 6, 0, 0, 2, 3)}, view{api.Hard{Term: 6, Vote: 1}, api.Candidate, 0}},
		{"and in the vote", candidate(five, 5).then(yesOf(api.Say, 2, 5), join(three)), yesOf(api.Say, 2, 5), told{}, view{api.Hard{Term: 5, Vote: 1}, api.Leader, 1}},
		{"fewer prevent one", hopeful(five, 5).then(noOf(api.PreSay, 2, 5), noOf(api.PreSay, 4, 5), join(three)), noOf(api.PreSay, 3, 5), told{}, view{api.Hard{Term: 5}, api.Follower, 0}},
		{"itself does not count, as it is no voter", hopeful(three, 5).then(join(voters(2, 3, 4))), yesOf(api.PreSay, 2, 6), told{}, view{api.Hard{Term: 5}, api.Hopeful, 0}},
		{"it runs though it is no voter", hopeful(three, 5).then(join(voters(2, 3)), yesOf(api.PreSay, 2, 6)), yesOf(api.PreSay, 3, 6), told{ballots: asks(1, api.Ask, 6, 0, 0, 2, 3)}, view{api.Hard{Term: 6, Vote: 1}, api.Candidate, 0}},
		{"it runs and is alone", hopeful(three, 5).then(join(voters(1))), noOf(api.PreSay, 2, 5), told{}, view{api.Hard{Term: 6, Vote: 1}, api.Leader, 1}},
	})
}

func TestJoinOfWrongGroups(t *testing.T) {
	three := voters(1, 2, 3)
	for what, g := range wrongGroups() {
		for _, h := range []history{fresh(three, 5), following(three, 5), hopeful(three, 5), candidate(three, 5), leading(three, 5)} {
			want(t, what, h.node(t).Join(g), api.ErrArg)
			wantFutures(t, h.then(join(g)), h.plain(t))
		}
	}
}

// R3: groups are the caller's, and so is what is returned

func TestGroupsAreNotKept(t *testing.T) {
	for _, joins := range []bool{false, true} {
		v, l := []int{1, 2, 3, 9}, []int{4, 5, 9}
		g := api.Group{Voters: v[:3], Learners: l[:2]}
		first := g
		if joins {
			first = voters(7)
		}
		n, e := New(1, api.Hard{}, first, 2)
		want(t, "New", e, api.OK)
		if joins {
			want(t, "Join", n.Join(g), api.OK)
		}
		n.Tick(0, 0, 0)
		n.Tick(0, 0, 0)
		n.Take(ballot(api.PreSay, 2, 1, true), 0, 0)
		n.Take(ballot(api.Say, 3, 1, true), 0, 0)
		if !slices.Equal(v, []int{1, 2, 3, 9}) || !slices.Equal(l, []int{4, 5, 9}) {
			t.Errorf("the group is %v, %v", v, l)
		}
	}
	for _, joins := range []bool{false, true} {
		v, l := []int{1, 2, 3}, []int{4, 5}
		g := api.Group{Voters: v, Learners: l}
		h := history{id: 1, group: voters(1, 2, 3), patience: 2}
		n, e := New(1, api.Hard{}, g, 2)
		want(t, "New", e, api.OK)
		if joins {
			n, _ = New(1, api.Hard{}, voters(7), 2)
			want(t, "Join", n.Join(g), api.OK)
		}
		copy(v, []int{6, 7, 8})
		copy(l, []int{1, 1})
		p := h.plain(t)
		for _, c := range []call{tick(0), tickAt(0, 3, 3), yesOf(api.PreSay, 7, 1), yesOf(api.PreSay, 3, 1), yesOf(api.Say, 7, 1), yesOf(api.Say, 2, 1)} {
			p = wantCall(t, h, n, p, c)
		}
	}
}

func TestResultsShareNothing(t *testing.T) {
	spoil := func(l []api.Ballot) {
		all := l[:cap(l)]
		for i := range all {
			all[i] = api.Ballot{Kind: 9, From: 9, To: 9, Term: 9}
		}
	}
	three := voters(1, 2, 3)
	h := fresh(three, 5)
	n, p := h.node(t), h.plain(t)
	for _, c := range []call{
		tick(0), tick(0), noOf(api.PreSay, 2, 5), tick(0), tick(0), yesOf(api.PreSay, 2, 6),
		take(ballot(api.Pre, 2, 8, false)), take(ballot(api.Ask, 2, 6, false)), take(ballot(api.Ask, 2, 7, false)), tick(0), tick(0),
	} {
		q, asked := c.plain(p)
		got := c.node(n)
		if !got.same(asked) || look(n) != q.view() {
			t.Fatalf("%s: %+v, want %+v", c.what, got, asked)
		}
		spoil(got.ballots)
		p = q
	}
	// Two results of the same node, and of two nodes.
	a := fresh(three, 5).then(tick(0)).node(t)
	b := fresh(three, 5).then(tick(0)).node(t)
	first, other := a.Tick(0, 0, 0), b.Tick(0, 0, 0)
	a.Tick(0, 0, 0)
	second := a.Tick(0, 0, 0)
	spoil(first)
	asked := asks(1, api.Pre, 6, 0, 0, 2, 3)
	if !slices.Equal(other, asked) || !slices.Equal(second, asked) {
		t.Errorf("%v and %v, want %v", other, second, asked)
	}
}

func TestNodesAreApart(t *testing.T) {
	g := voters(1, 2, 3)
	h := hopeful(g, 5)
	a, b := h.node(t), h.node(t)
	a.Take(ballot(api.PreSay, 2, 6, true), 0, 0)
	a.Join(voters(4))
	if look(b) != (view{api.Hard{Term: 5}, api.Hopeful, 0}) {
		t.Errorf("the other is %+v", look(b))
	}
	p := h.plain(t)
	wantCall(t, h, b, p, noOf(api.PreSay, 2, 5))
}
