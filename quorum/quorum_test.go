package quorum

import (
	"math"
	"slices"
	"testing"

	"jetway/api"
)

// far are numbers that are no nodes, and near the ends of what is one.
var far = []int{math.MinInt, math.MinInt + 1, -16, -1, 0, 1, 2, 14, 15, 16, 17, 1 << 40, math.MaxInt - 1, math.MaxInt}

func must(t *testing.T, e api.Errno) {
	t.Helper()
	want(t, "a call that may not fail", e, api.OK)
}

func want(t *testing.T, what string, e, asked api.Errno) {
	t.Helper()
	if e != asked {
		t.Fatalf("%s: error %d, want %d", what, e, asked)
	}
}

// wrong are groups that are not valid.
func wrong() map[string]api.Group {
	all := append(upTo(15), 16)
	return map[string]api.Group{
		"none":                      {},
		"empty lists":               {Voters: []int{}, Learners: []int{}},
		"learners alone":            {Learners: []int{1, 2}},
		"voter 0":                   {Voters: []int{0}},
		"voter 0 ahead":             {Voters: []int{0, 1, 2}},
		"voter 16":                  {Voters: []int{16}},
		"voter 16 behind":           {Voters: []int{1, 2, 16}},
		"voter -1":                  {Voters: []int{-1, 1}},
		"voters fall":               {Voters: []int{2, 1}},
		"voters fall at the end":    {Voters: []int{1, 3, 2}},
		"voter twice":               {Voters: []int{1, 1}},
		"voter twice, apart":        {Voters: []int{1, 2, 1}},
		"last voter twice":          {Voters: []int{1, 2, 15, 15}},
		"learner 0":                 {Voters: []int{1}, Learners: []int{0}},
		"learner 16":                {Voters: []int{1}, Learners: []int{16}},
		"learner -1":                {Voters: []int{1}, Learners: []int{-1, 2}},
		"learners fall":             {Voters: []int{1}, Learners: []int{3, 2}},
		"learner twice":             {Voters: []int{1}, Learners: []int{2, 2}},
		"in both":                   {Voters: []int{1, 2}, Learners: []int{2}},
		"in both, at the ends":      {Voters: []int{1, 15}, Learners: []int{2, 3, 15}},
		"in both, the first":        {Voters: []int{1, 2, 3}, Learners: []int{1, 4}},
		"least int":                 {Voters: []int{math.MinInt, 1}},
		"greatest int":              {Voters: []int{1, math.MaxInt}},
		"learner of least int":      {Voters: []int{1}, Learners: []int{math.MinInt}},
		"learner of greatest int":   {Voters: []int{1}, Learners: []int{math.MaxInt}},
		"sixteen voters":            {Voters: all},
		"all twice":                 {Voters: upTo(15), Learners: upTo(15)},
		"more voters than nodes":    {Voters: append(upTo(15), 15)},
		"voters end where they may": {Voters: []int{1, 2, 3, 4, 5, 6, 7, 8, 9, 10, 11, 12, 13, 14, 15, 1}},
	}
}

// P9.1, Right

func TestRight(t *testing.T) {
	for _, g := range []api.Group{
		{Voters: []int{1}},
		{Voters: []int{15}},
		{Voters: []int{1}, Learners: []int{}},
		{Voters: []int{15}, Learners: []int{1}},
		{Voters: []int{1}, Learners: []int{15}},
		{Voters: []int{1, 2}},
		{Voters: []int{1, 15}, Learners: []int{2, 14}},
		{Voters: []int{2, 4, 6}, Learners: []int{1, 3, 5, 7}},
		{Voters: []int{1, 2, 3, 4}},
		{Voters: upTo(15)},
		{Voters: upTo(14), Learners: []int{15}},
		{Voters: []int{15}, Learners: upTo(14)},
	} {
		if !Right(g) {
			t.Errorf("%v is valid", g)
		}
	}
	for what, g := range wrong() {
		if Right(g) {
			t.Errorf("%s: %v is not valid", what, g)
		}
	}
}

func TestRightOfShortLists(t *testing.T) {
	all := lists(3, -1, 0, 1, 2, 15, 16)
	seen := map[bool]int{}
	for _, voters := range all {
		for _, learners := range all {
			g := api.Group{Voters: voters, Learners: learners}
			_, ok := read(g)
			if Right(g) != ok {
				t.Fatalf("Right(%v) is %t", g, !ok)
			}
			seen[ok]++
		}
	}
	// Of the nodes 1, 2 and 15 each is one of three, and all groups but those without a voter are valid.
	if seen[true] != 27-8 {
		t.Errorf("%v groups", seen)
	}
}

func TestRightOfAllGroups(t *testing.T) {
	for _, p := range groups(1, 2, 3, 8, 13, 14, 15) {
		if Right(p.group()) != (p.voters() > 0) {
			t.Errorf("Right of %v", p)
		}
	}
}

// P9.1, Need

func TestNeed(t *testing.T) {
	for n, need := range []int{1: 1, 2, 2, 3, 3, 4, 4, 5, 5, 6, 6, 7, 7, 8, 8} {
		if n == 0 {
			continue
		}
		low, high := upTo(15)[:n], upTo(15)[15-n:]
		for _, g := range []api.Group{
			{Voters: low},
			{Voters: high},
			{Voters: low, Learners: upTo(15)[n:]},
			{Voters: high, Learners: upTo(15)[:15-n]},
		} {
			if got := Need(g); got != need {
				t.Errorf("Need(%v) is %d, want %d", g, got, need)
			}
		}
	}
}

func TestNeedOfAllGroups(t *testing.T) {
	for _, p := range valid(1, 2, 3, 4, 9, 14, 15) {
		if got := Need(p.group()); got != p.need() {
			t.Errorf("%v: Need is %d, want %d", p, got, p.need())
		}
	}
}

// P9.1, Wins and Lost

func wantCount(t *testing.T, p plain, l []int) {
	t.Helper()
	g := p.group()
	if got := Wins(g, l); got != p.wins(l) {
		t.Fatalf("%v: Wins(%v) is %t", p, l, got)
	}
	if got := Lost(g, l); got != p.lost(l) {
		t.Fatalf("%v: Lost(%v) is %t", p, l, got)
	}
}

func TestWinsAndLost(t *testing.T) {
	one, two, three, four, five := upTo(1), upTo(2), upTo(3), upTo(4), upTo(5)
	for _, c := range []struct {
		voters, learners, l []int
		wins, lost          bool
	}{
		{three, nil, []int{1, 3, 9}, true, true}, // the chapter's example
		{three, []int{4}, []int{1, 1, 4}, false, false},
		{three, []int{4}, []int{1, 2}, true, true},

		{one, nil, nil, false, false},
		{one, nil, []int{}, false, false},
		{one, nil, []int{1}, true, true},
		{one, nil, []int{2}, false, false},
		{one, []int{2, 3}, []int{2, 3, 2}, false, false},
		{one, nil, []int{1, 1, 1}, true, true},

		{two, nil, nil, false, false},
		{two, nil, []int{1}, false, true},
		{two, nil, []int{2, 2}, false, true},
		{two, nil, []int{2, 1}, true, true},
		{two, []int{3}, []int{2, 3}, false, true},
		{two, []int{3}, []int{3}, false, false},

		{three, nil, nil, false, false},
		{three, nil, []int{3}, false, false},
		{three, nil, []int{3, 3, 3}, false, false},
		{three, nil, []int{3, 2}, true, true},
		{three, nil, []int{3, 2, 1}, true, true},

		{four, nil, nil, false, false},
		{four, nil, []int{4}, false, false},
		{four, nil, []int{4, 1}, false, true},
		{four, nil, []int{4, 1, 4, 1}, false, true},
		{four, nil, []int{4, 1, 2}, true, true},
		{four, []int{5, 15}, []int{15, 5, 1}, false, false},
		{four, []int{5, 15}, []int{15, 4, 1}, false, true},

		{five, nil, []int{1, 2}, false, false},
		{five, nil, []int{1, 2, 5}, true, true},
		{five, []int{6, 7}, []int{1, 2, 6, 7}, false, false},

		{[]int{1, 15}, nil, []int{15}, false, true},
		{[]int{15}, nil, []int{15}, true, true},
		{[]int{15}, []int{1}, []int{1}, false, false},
		{upTo(15), nil, nil, false, false},
		{upTo(15), nil, upTo(7), false, false},
		{upTo(15), nil, upTo(8), true, true},
		{upTo(15), nil, upTo(15), true, true},
		{upTo(15), nil, slices.Concat(upTo(7), upTo(7)), false, false},
		{upTo(14), []int{15}, append(upTo(6), 15), false, false},
		{upTo(14), []int{15}, append(upTo(7), 15), false, true},
		{upTo(14), []int{15}, append(upTo(8), 15), true, true},
	} {
		g := api.Group{Voters: c.voters, Learners: c.learners}
		if got := Wins(g, c.l); got != c.wins {
			t.Errorf("Wins(%v, %v) is %t", g, c.l, got)
		}
		if got := Lost(g, c.l); got != c.lost {
			t.Errorf("Lost(%v, %v) is %t", g, c.l, got)
		}
	}
}

func TestWinsAndLostOfNumbersThatAreNoNodes(t *testing.T) {
	for _, p := range valid(1, 2, 15) {
		for _, a := range far {
			for _, b := range far {
				wantCount(t, p, []int{a, b})
				wantCount(t, p, []int{a, b, a})
			}
		}
	}
	for _, p := range valid(1, 2, 3, 14, 15) {
		wantCount(t, p, far)
		wantCount(t, p, []int{math.MinInt, -15, -2, -1, 0, 16, 17, 18, 31, math.MaxInt})
	}
}

func TestWinsAndLostOfShortLists(t *testing.T) {
	all := lists(5, 0, 1, 2, 3, 4, 9)
	for _, p := range valid(1, 2, 3, 4) {
		for _, l := range all {
			wantCount(t, p, l)
		}
	}
}

func TestWinsAndLostOfManyNodes(t *testing.T) {
	all := subsets(upTo(15))
	for _, n := range []int{1, 2, 3, 4, 14, 15} {
		var low, high plain
		for i := range 15 {
			low[i+1], high[i+1] = learner, stranger
			if i < n {
				low[i+1] = voter
			}
			if i >= 15-n {
				high[i+1] = voter
			}
		}
		for _, l := range all {
			wantCount(t, low, l)
			wantCount(t, high, l)
		}
	}
}

func TestWinsAndLostOfALongList(t *testing.T) {
	l := slices.Repeat([]int{4, 2, 16, 2}, 1000)
	for _, p := range valid(1, 2, 3, 4) {
		wantCount(t, p, l)
		wantCount(t, p, append(l, 1))
		wantCount(t, p, append([]int{3}, l...))
	}
}

// P9.1 to P9.3: groups that are not valid

func TestGroupsThatAreNotValid(t *testing.T) {
	var at [16]int
	for i := range at {
		at[i] = i + 5
	}
	for what, g := range wrong() {
		if n := Need(g); n != 0 {
			t.Errorf("%s: Need is %d", what, n)
		}
		for _, l := range [][]int{nil, {0}, {1}, {1, 2}, {16}, upTo(15), append(upTo(15), 0, 16, -1), g.Voters, g.Learners} {
			if Wins(g, l) || Lost(g, l) {
				t.Errorf("%s: Wins(%v) is %t, Lost is %t", what, l, Wins(g, l), Lost(g, l))
			}
		}
		if n := Middle(g, at); n != 0 {
			t.Errorf("%s: Middle is %d", what, n)
		}
		for kind := 0; kind <= 4; kind++ {
			for _, node := range far {
				h, e := Change(g, kind, node)
				want(t, what, e, api.ErrArg)
				if h.Voters != nil || h.Learners != nil {
					t.Errorf("%s: Change returns %v with an error", what, h)
				}
			}
		}
	}
}

func TestShortListsThatAreNotValid(t *testing.T) {
	all := lists(2, -1, 0, 1, 2, 15, 16)
	at := [16]int{0: 4, 1: 3, 2: 2, 15: 1}
	for _, voters := range all {
		for _, learners := range all {
			g := api.Group{Voters: voters, Learners: learners}
			if _, ok := read(g); ok {
				continue
			}
			if Need(g) != 0 || Wins(g, voters) || Lost(g, voters) || Wins(g, nil) || Lost(g, nil) || Middle(g, at) != 0 {
				t.Fatalf("%v is not valid", g)
			}
			for kind := 1; kind <= 3; kind++ {
				if h, e := Change(g, kind, 2); e != api.ErrArg || h.Voters != nil || h.Learners != nil {
					t.Fatalf("Change(%v, %d, 2) is %v, %d", g, kind, h, e)
				}
			}
		}
	}
}

// P9.2

func wantMiddle(t *testing.T, p plain, at [16]int) {
	t.Helper()
	if got, asked := Middle(p.group(), at), p.middle(at); got != asked {
		t.Fatalf("%v: Middle(%v) is %d, want %d", p, at, got, asked)
	}
}

func TestMiddle(t *testing.T) {
	const least, most = math.MinInt, math.MaxInt
	for _, c := range []struct {
		voters, learners []int
		at               [16]int
		middle           int
	}{
		{upTo(3), nil, [16]int{1: 5, 2: 7}, 5}, // the chapter's example
		{upTo(3), []int{4}, [16]int{1: 5, 2: 7, 4: 9}, 5},

		{upTo(1), nil, [16]int{1: 5}, 5},
		{upTo(1), nil, [16]int{0: 9, 1: 5, 2: 9, 15: 9}, 5},
		{[]int{15}, []int{1}, [16]int{0: 9, 1: 8, 15: -3}, -3},
		{upTo(2), nil, [16]int{1: 5, 2: 7}, 5},
		{upTo(2), nil, [16]int{1: 7, 2: 5}, 5},
		{[]int{1, 15}, nil, [16]int{1: 7, 15: 5}, 5},
		{[]int{1, 15}, []int{2, 3}, [16]int{1: 5, 2: 6, 3: 6, 15: 7}, 5},
		{upTo(3), nil, [16]int{1: 7, 2: 6, 3: 5}, 6},
		{upTo(4), nil, [16]int{1: 4, 2: 3, 3: 2, 4: 1}, 2},
		{upTo(4), nil, [16]int{1: 1, 2: 4, 3: 1, 4: 4}, 1},
		{upTo(15), nil, [16]int{0, 1, 2, 3, 4, 5, 6, 7, 8, 9, 10, 11, 12, 13, 14, 15}, 8},
		{upTo(14), []int{15}, [16]int{0, 1, 2, 3, 4, 5, 6, 7, 8, 9, 10, 11, 12, 13, 14, 15}, 7},

		{upTo(3), nil, [16]int{}, 0},
		{upTo(3), nil, [16]int{1: 6, 2: 6, 3: 6}, 6},
		{upTo(4), nil, [16]int{0: -1, 1: -6, 2: -6, 3: -6, 4: -6}, -6},
		{upTo(3), nil, [16]int{1: -5, 2: -7, 3: 0}, -5},
		{upTo(3), nil, [16]int{1: -5, 2: -7, 3: -9}, -7},
		{upTo(2), nil, [16]int{1: -1, 2: 1}, -1},
		{upTo(4), nil, [16]int{1: -1, 2: 0, 3: 1, 4: 2}, 0},

		{upTo(1), nil, [16]int{1: least}, least},
		{upTo(1), nil, [16]int{1: most}, most},
		{upTo(2), nil, [16]int{1: least, 2: most}, least},
		{upTo(3), nil, [16]int{1: least, 2: most, 3: most}, most},
		{upTo(3), nil, [16]int{1: least, 2: most, 3: 0}, 0},
		{upTo(3), nil, [16]int{1: least, 2: least + 1, 3: most}, least + 1},
		{upTo(3), nil, [16]int{0: most, 1: least, 2: least, 3: most, 4: most, 15: most}, least},
	} {
		g := api.Group{Voters: c.voters, Learners: c.learners}
		if got := Middle(g, c.at); got != c.middle {
			t.Errorf("Middle(%v, %v) is %d, want %d", g, c.at, got, c.middle)
		}
	}
}

func TestMiddleOfFewNodes(t *testing.T) {
	values := []int{math.MinInt, -1, 0, 1, math.MaxInt}
	all := valid(1, 2, 3, 4)
	for n := range 5 * 5 * 5 * 5 {
		at := [16]int{0: values[n%5], 1: values[n%5], 2: values[n/5%5], 3: values[n/25%5], 4: values[n/125], 5: values[n/25%5], 15: values[n/125]}
		for _, p := range all {
			wantMiddle(t, p, at)
		}
	}
}

// Each order of unlike values, at five voters.
func TestMiddleOfEachOrder(t *testing.T) {
	p := plain{1: voter, 2: voter, 4: learner, 5: voter, 9: voter, 15: voter}
	values := []int{-8, -3, 0, 12, 40}
	seen := 0
	for _, l := range lists(5, values...) {
		if len(slices.Compact(slices.Sorted(slices.Values(l)))) < 5 {
			continue
		}
		at := [16]int{0: 99, 1: l[0], 2: l[1], 3: 99, 4: 98, 5: l[2], 9: l[3], 15: l[4]}
		if got := Middle(p.group(), at); got != 0 {
			t.Errorf("Middle(%v) is %d", at, got)
		}
		seen++
	}
	if seen != 120 {
		t.Errorf("%d orders", seen)
	}
}

// What is at place 0 and at nodes that are no voters is never told.
func TestMiddleOfVotersAlone(t *testing.T) {
	for _, p := range valid(1, 2, 3, 15) {
		at := [16]int{1: 10, 2: -20, 3: 30, 15: 40}
		asked := Middle(p.group(), at)
		for _, v := range []int{math.MinInt, -1, 0, 25, math.MaxInt} {
			for n := range at {
				if p[n] != voter {
					at[n] = v
				}
			}
			if got := Middle(p.group(), at); got != asked {
				t.Errorf("%v: Middle(%v) is %d, want %d", p, at, got, asked)
			}
		}
	}
}
