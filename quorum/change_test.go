package quorum

import (
	"fmt"
	"slices"
	"testing"

	"jetway/api"
)

var kinds = []int{-1 << 63, -1, 0, 1, 2, 3, 4, 1<<63 - 1}

// wantChange holds a change against the plain one, and returns the group after it.
func wantChange(t *testing.T, p plain, kind, node int) (plain, api.Errno) {
	t.Helper()
	what := fmt.Sprintf("%v: Change(%d, %d)", p, kind, node)
	g, e := Change(p.group(), kind, node)
	h, asked := p.change(kind, node)
	want(t, what, e, asked)
	if !slices.Equal(g.Voters, h.list(voter)) || !slices.Equal(g.Learners, h.list(learner)) {
		t.Fatalf("%s is %v, want %v", what, g, h)
	}
	if Right(g) != (e == api.OK) {
		t.Fatalf("%s: %v, error %d", what, g, e)
	}
	return h, e
}

// P9.3

func TestChange(t *testing.T) {
	g := api.Group{Voters: []int{1, 3, 15}, Learners: []int{4, 6}}
	for _, c := range []struct {
		g                api.Group
		kind, node       int
		e                api.Errno
		voters, learners []int
	}{
		{api.Group{Voters: []int{1, 2, 3}, Learners: []int{4}}, api.Promote, 4, api.OK, []int{1, 2, 3, 4}, nil}, // the chapter's example

		{g, api.AddLearner, 2, api.OK, []int{1, 3, 15}, []int{2, 4, 6}},
		{g, api.AddLearner, 5, api.OK, []int{1, 3, 15}, []int{4, 5, 6}},
		{g, api.AddLearner, 14, api.OK, []int{1, 3, 15}, []int{4, 6, 14}},
		{g, api.AddLearner, 1, api.ErrOrder, nil, nil},
		{g, api.AddLearner, 15, api.ErrOrder, nil, nil},
		{g, api.AddLearner, 4, api.ErrOrder, nil, nil},
		{g, api.AddLearner, 0, api.ErrArg, nil, nil},
		{g, api.AddLearner, -1, api.ErrArg, nil, nil},
		{g, api.AddLearner, 16, api.ErrArg, nil, nil},

		{g, api.Promote, 4, api.OK, []int{1, 3, 4, 15}, []int{6}},
		{g, api.Promote, 6, api.OK, []int{1, 3, 6, 15}, []int{4}},
		{g, api.Promote, 3, api.ErrOrder, nil, nil},
		{g, api.Promote, 5, api.ErrOrder, nil, nil},
		{g, api.Promote, 0, api.ErrArg, nil, nil},
		{g, api.Promote, 16, api.ErrArg, nil, nil},

		{g, api.Remove, 1, api.OK, []int{3, 15}, []int{4, 6}},
		{g, api.Remove, 3, api.OK, []int{1, 15}, []int{4, 6}},
		{g, api.Remove, 15, api.OK, []int{1, 3}, []int{4, 6}},
		{g, api.Remove, 4, api.OK, []int{1, 3, 15}, []int{6}},
		{g, api.Remove, 6, api.OK, []int{1, 3, 15}, []int{4}},
		{g, api.Remove, 5, api.ErrOrder, nil, nil},
		{g, api.Remove, 0, api.ErrArg, nil, nil},
		{g, api.Remove, 16, api.ErrArg, nil, nil},

		{g, 0, 4, api.ErrArg, nil, nil},
		{g, 4, 4, api.ErrArg, nil, nil},
		{g, -1, 4, api.ErrArg, nil, nil},

		{api.Group{Voters: []int{1}}, api.AddLearner, 15, api.OK, []int{1}, []int{15}},
		{api.Group{Voters: []int{15}}, api.AddLearner, 1, api.OK, []int{15}, []int{1}},
		{api.Group{Voters: []int{1}}, api.Remove, 1, api.ErrOrder, nil, nil},
		{api.Group{Voters: []int{15}}, api.Remove, 15, api.ErrOrder, nil, nil},
		{api.Group{Voters: []int{1}, Learners: []int{2, 3}}, api.Remove, 1, api.ErrOrder, nil, nil},
		{api.Group{Voters: []int{1}, Learners: []int{2}}, api.Remove, 2, api.OK, []int{1}, nil},
		{api.Group{Voters: []int{1}, Learners: []int{2}}, api.Promote, 2, api.OK, []int{1, 2}, nil},
		{api.Group{Voters: []int{15}, Learners: []int{1}}, api.Promote, 1, api.OK, []int{1, 15}, nil},
		{api.Group{Voters: []int{1, 2}}, api.Remove, 1, api.OK, []int{2}, nil},
		{api.Group{Voters: []int{1, 2}}, api.Remove, 2, api.OK, []int{1}, nil},
		{api.Group{Voters: []int{1, 2}}, api.Remove, 3, api.ErrOrder, nil, nil},
		{api.Group{Voters: upTo(15)}, api.AddLearner, 15, api.ErrOrder, nil, nil},
		{api.Group{Voters: upTo(15)}, api.Remove, 15, api.OK, upTo(14), nil},
		{api.Group{Voters: upTo(14)}, api.AddLearner, 15, api.OK, upTo(14), []int{15}},
		{api.Group{Voters: upTo(14), Learners: []int{15}}, api.Promote, 15, api.OK, upTo(15), nil},
		{api.Group{Voters: []int{8}, Learners: slices.Concat(upTo(7), []int{9, 10, 11, 12, 13, 14, 15})}, api.Promote, 1, api.OK, []int{1, 8}, []int{2, 3, 4, 5, 6, 7, 9, 10, 11, 12, 13, 14, 15}},

		// Two errors at once: the first that is named.
		{api.Group{}, 4, 4, api.ErrArg, nil, nil},
		{api.Group{Voters: []int{2, 1}}, 0, 1, api.ErrArg, nil, nil},
		{api.Group{Voters: []int{1, 1}}, api.Remove, 1, api.ErrArg, nil, nil},
		{api.Group{Voters: []int{1, 1}}, api.AddLearner, 1, api.ErrArg, nil, nil},
		{api.Group{Learners: []int{1}}, api.AddLearner, 1, api.ErrArg, nil, nil},
		{api.Group{Voters: []int{16}}, api.Remove, 16, api.ErrArg, nil, nil},
		{api.Group{Voters: []int{1}}, api.Remove, 16, api.ErrArg, nil, nil},
		{api.Group{Voters: []int{1}}, api.Remove, 0, api.ErrArg, nil, nil},
		{api.Group{Voters: []int{1}}, 4, 1, api.ErrArg, nil, nil},
		{api.Group{Voters: []int{1}}, 0, 0, api.ErrArg, nil, nil},
	} {
		what := fmt.Sprintf("Change(%v, %d, %d)", c.g, c.kind, c.node)
		h, e := Change(c.g, c.kind, c.node)
		want(t, what, e, c.e)
		if !slices.Equal(h.Voters, c.voters) || !slices.Equal(h.Learners, c.learners) {
			t.Errorf("%s is %v, want %v and %v", what, h, c.voters, c.learners)
		}
	}
}

func TestChangeOfTheExampleNeedsThree(t *testing.T) {
	g, e := Change(api.Group{Voters: []int{1, 2, 3}, Learners: []int{4}}, api.Promote, 4)
	must(t, e)
	if n := Need(g); n != 3 {
		t.Errorf("Need is %d", n)
	}
}

func TestChangeOfAllGroups(t *testing.T) {
	seen := map[string]int{}
	for _, p := range valid(1, 2, 3, 7, 14, 15) {
		for _, kind := range kinds {
			for _, node := range slices.Concat(far, upTo(15)) {
				_, e := wantChange(t, p, kind, node)
				r := stranger
				if node >= 1 && node <= 15 {
					r = p[node]
				}
				seen[fmt.Sprint(kind, r, e)]++
			}
		}
	}
	for _, s := range []string{
		fmt.Sprint(1, stranger, api.OK), fmt.Sprint(1, voter, api.ErrOrder), fmt.Sprint(1, learner, api.ErrOrder), fmt.Sprint(1, stranger, api.ErrArg),
		fmt.Sprint(2, stranger, api.ErrOrder), fmt.Sprint(2, voter, api.ErrOrder), fmt.Sprint(2, learner, api.OK), fmt.Sprint(2, stranger, api.ErrArg),
		fmt.Sprint(3, stranger, api.ErrOrder), fmt.Sprint(3, voter, api.OK), fmt.Sprint(3, voter, api.ErrOrder), fmt.Sprint(3, learner, api.OK), fmt.Sprint(3, stranger, api.ErrArg),
		fmt.Sprint(0, voter, api.ErrArg), fmt.Sprint(4, learner, api.ErrArg), fmt.Sprint(-1, stranger, api.ErrArg),
	} {
		if seen[s] < 10 {
			t.Errorf("%s was seen %d times", s, seen[s])
		}
	}
	if n := seen[fmt.Sprint(3, learner, api.ErrOrder)]; n != 0 {
		t.Errorf("%d learners were kept", n)
	}
}

// From one voter all groups can be reached, each by single changes, and a group that has all nodes falls to one voter again.
func TestChangesOneAfterTheOther(t *testing.T) {
	for first := 1; first <= 15; first++ {
		var p plain
		p[first] = voter
		var e api.Errno
		for n := 1; n <= 15; n++ {
			if n == first {
				continue
			}
			p, e = wantChange(t, p, api.AddLearner, n)
			must(t, e)
		}
		for n := 15; n >= 1; n-- {
			if n == first {
				continue
			}
			p, e = wantChange(t, p, api.Promote, n)
			must(t, e)
		}
		if p.voters() != 15 {
			t.Fatal(p)
		}
		for n := 1; n <= 15; n++ {
			if n != first {
				p, e = wantChange(t, p, api.Remove, n)
				must(t, e)
			}
		}
		_, e = wantChange(t, p, api.Remove, first)
		want(t, "Remove of the last", e, api.ErrOrder)
	}
}

// R3

// room is a list with room behind it, in which a call might write.
func room(l []int) []int {
	return append(make([]int, 0, len(l)+5), l...)
}

// roomOf is what a list has in its room.
func roomOf(l []int) []int { return slices.Clone(l[:cap(l)]) }

func TestArgumentsStay(t *testing.T) {
	at := [16]int{1: 9, 2: 3, 3: 7, 8: 1, 15: 4}
	for _, p := range valid(1, 2, 3, 15) {
		g := api.Group{Voters: room(p.list(voter)), Learners: room(p.list(learner))}
		voters, learners := roomOf(g.Voters), roomOf(g.Learners)
		l := room([]int{15, 3, 3, 0, 1})
		listed := roomOf(l)
		for _, kind := range kinds {
			for _, node := range []int{-1, 0, 1, 2, 3, 4, 15, 16} {
				Change(g, kind, node)
			}
		}
		Right(g)
		Need(g)
		Wins(g, l)
		Lost(g, l)
		Middle(g, at)
		if !slices.Equal(roomOf(g.Voters), voters) || !slices.Equal(roomOf(g.Learners), learners) || !slices.Equal(roomOf(l), listed) {
			t.Fatalf("%v: now %v and %v, list %v", p, roomOf(g.Voters), roomOf(g.Learners), roomOf(l))
		}
	}
}

// scribble writes all over a list and its room.
func scribble(l []int) {
	for i := range l[:cap(l)] {
		l[:cap(l)][i] = 77
	}
}

func TestResultsShareNothing(t *testing.T) {
	for _, p := range valid(1, 2, 3, 15) {
		for _, kind := range kinds {
			for node := 1; node <= 15; node++ {
				g := api.Group{Voters: room(p.list(voter)), Learners: room(p.list(learner))}
				given := [][]int{roomOf(g.Voters), roomOf(g.Learners)}
				h, e := Change(g, kind, node)
				if e != api.OK {
					continue
				}
				again, _ := Change(g, kind, node)
				after, _ := p.change(kind, node)

				scribble(h.Voters)
				if !slices.Equal(h.Learners, after.list(learner)) {
					t.Fatalf("%v: the lists of a result share memory", p)
				}
				scribble(h.Learners)
				if !slices.Equal(roomOf(g.Voters), given[0]) || !slices.Equal(roomOf(g.Learners), given[1]) {
					t.Fatalf("%v: the result of Change(%d, %d) shares memory with the argument", p, kind, node)
				}
				scribble(g.Voters)
				scribble(g.Learners)
				if !slices.Equal(again.Voters, after.list(voter)) || !slices.Equal(again.Learners, after.list(learner)) {
					t.Fatalf("%v: Change(%d, %d) has kept its argument, or its last result", p, kind, node)
				}
			}
		}
	}
}
