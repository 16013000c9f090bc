package quorum

import (
	"math"
	"math/rand"
	"slices"
	"testing"

	"jetway/api"
)

// The theorem P9.4 by itself: here the package's answers are held against each other, not against the plain ones.

// set has a bit for each node.
type set uint16

func setOf(l []int) set {
	var s set
	for _, n := range l {
		s |= 1 << n
	}
	return s
}

func (s set) list() []int {
	var l []int
	for n := range 16 {
		if s&(1<<n) != 0 {
			l = append(l, n)
		}
	}
	return l
}

// winners are all sets of nodes from 1 to n that win.
func winners(g api.Group, n int) []set {
	var all []set
	for _, l := range subsets(upTo(n)) {
		if Wins(g, l) {
			all = append(all, setOf(l))
		}
	}
	return all
}

// apart finds two sets without a node in common.
func apart(some, others []set) (set, set, bool) {
	for _, a := range some {
		for _, b := range others {
			if a&b == 0 {
				return a, b, true
			}
		}
	}
	return 0, 0, false
}

// P9.4, majorities before and after a change

func TestMajoritiesMeetAfterAChange(t *testing.T) {
	all := map[plain][]set{}
	for _, p := range valid(upTo(7)...) {
		all[p] = winners(p.group(), 7)
		if a, b, found := apart(all[p], all[p]); found {
			t.Fatalf("%v: %v and %v win", p, a.list(), b.list())
		}
	}
	changed := map[int]int{}
	for p, before := range all {
		for kind := 1; kind <= 3; kind++ {
			for node := 1; node <= 7; node++ {
				g, e := Change(p.group(), kind, node)
				if e != api.OK {
					continue
				}
				changed[kind]++
				h, _ := read(g)
				if a, b, found := apart(before, all[h]); found {
					t.Fatalf("%v: %v wins, and after Change(%d, %d) %v", p, a.list(), kind, node, b.list())
				}
			}
		}
	}
	for kind := 1; kind <= 3; kind++ {
		if changed[kind] < 1000 {
			t.Errorf("%v changes", changed)
		}
	}
}

// Two changes at once may leave majorities apart: so the test above can see it.
func TestMajoritiesAfterTwoChangesMayBeApart(t *testing.T) {
	three, five := winners(api.Group{Voters: upTo(3)}, 5), winners(api.Group{Voters: upTo(5)}, 5)
	if _, _, found := apart(three, five); !found {
		t.Error("all majorities of three and of five voters meet")
	}
}

// In groups of all sizes: the voters of two majorities are more than there are voters, before and after together.
func TestMajoritiesOfManyMeetAfterAChange(t *testing.T) {
	for n := 1; n <= 15; n++ {
		for some := 1; some <= n; some++ {
			g := api.Group{Voters: upTo(n)[:some], Learners: upTo(n)[some:]}
			for kind := 1; kind <= 3; kind++ {
				for node := 1; node <= 15; node++ {
					h, e := Change(g, kind, node)
					if e != api.OK {
						continue
					}
					all := slices.Compact(slices.Sorted(slices.Values(slices.Concat(g.Voters, h.Voters))))
					if Need(g)+Need(h) <= len(all) {
						t.Fatalf("%v needs %d, %v needs %d", g, Need(g), h, Need(h))
					}
				}
			}
		}
	}
}

// P9.4, no nodes win that others prevent

func TestNobodyWinsWhatOthersPrevent(t *testing.T) {
	all := subsets([]int{0, 1, 2, 3, 4, 15})
	both := 0
	for _, p := range valid(1, 2, 3, 4, 15) {
		g := p.group()
		for _, l := range all {
			for _, m := range all {
				if setOf(l)&setOf(m) != 0 {
					continue
				}
				if Wins(g, l) && Lost(g, m) {
					t.Fatalf("%v: %v wins, and %v prevents it", p, l, m)
				}
				if Lost(g, l) && Lost(g, m) {
					both++
				}
			}
		}
	}
	// Half of an even number of voters and the other half prevent each other.
	if both == 0 {
		t.Error("no group is split in halves")
	}
}

// Who prevents a majority keeps all the others from winning, and who does not, does not.
func TestOthersWinUnlessPrevented(t *testing.T) {
	for n := 1; n <= 15; n++ {
		g := api.Group{Voters: upTo(15)[:n], Learners: upTo(15)[n:]}
		for _, l := range subsets(upTo(15)) {
			others := (setOf(upTo(15)) &^ setOf(l)).list()
			if Wins(g, others) == Lost(g, l) {
				t.Fatalf("%v: Lost(%v) and Wins(%v) are both %t", g, l, others, Lost(g, l))
			}
		}
	}
}

// A majority is more than half, so that without it there is none.
func TestWhoWinsPrevents(t *testing.T) {
	for _, p := range valid(1, 2, 3, 4, 15) {
		for _, l := range subsets([]int{1, 2, 3, 4, 15}) {
			if Wins(p.group(), l) && !Lost(p.group(), l) {
				t.Fatalf("%v: %v wins, and the others may, too", p, l)
			}
		}
	}
}

// P9.4, Middle

// wantMost holds Middle against Wins: those who have as much are most of the voters, those who have more are not.
func wantMost(t *testing.T, g api.Group, at [16]int) {
	t.Helper()
	middle := Middle(g, at)
	var least, more []int
	for n, v := range at {
		if v >= middle {
			least = append(least, n)
		}
		if v > middle {
			more = append(more, n)
		}
	}
	if !Wins(g, least) {
		t.Fatalf("%v: Middle(%v) is %d, which only %v have", g, at, middle, least)
	}
	if Wins(g, more) {
		t.Fatalf("%v: Middle(%v) is %d, but %v have more", g, at, middle, more)
	}
}

func TestMostHaveMiddleAndNotMore(t *testing.T) {
	all := valid(1, 2, 3, 4, 5)
	for _, l := range lists(5, math.MinInt, 0, math.MaxInt) {
		if len(l) < 5 {
			continue
		}
		at := [16]int{0: l[0], 1: l[0], 2: l[1], 3: l[2], 4: l[3], 5: l[4], 6: l[1]}
		for _, p := range all {
			wantMost(t, p.group(), at)
		}
	}
}

// Along pseudo-random groups, changes, lists and values.

type script struct{ *rand.Rand }

func (s script) group() plain {
	var p plain
	for p.voters() == 0 {
		few := s.Intn(3)
		for n := 1; n <= 15; n++ {
			p[n] = [...]role{voter, stranger, learner, voter, voter}[s.Intn(3+few)]
		}
	}
	return p
}

func (s script) values() [16]int {
	var at [16]int
	width := []int{1, 3, 10, 1 << 40}[s.Intn(4)]
	for n := range at {
		at[n] = s.Intn(2*width+1) - width
		if s.Intn(20) == 0 {
			at[n] = far[s.Intn(len(far))]
		}
	}
	return at
}

func (s script) list() []int {
	l := s.Perm(16)[:s.Intn(17)]
	for range s.Intn(4) {
		l = append(l, far[s.Intn(len(far))])
	}
	s.Shuffle(len(l), func(i, j int) { l[i], l[j] = l[j], l[i] })
	return l
}

func TestScripts(t *testing.T) {
	s := script{rand.New(rand.NewSource(9))}
	seen := map[string]int{}
	for range 300 {
		p := s.group()
		for range 60 {
			g := p.group()
			if got := Need(g); got != p.need() {
				t.Fatalf("%v: Need is %d", p, got)
			}
			l := s.list()
			wantCount(t, p, l)
			if Wins(g, l) {
				seen["won"]++
			} else if Lost(g, l) {
				seen["lost alone"]++
			} else {
				seen["neither"]++
			}
			at := s.values()
			wantMiddle(t, p, at)
			wantMost(t, g, at)

			kind, node := s.Intn(5), s.Intn(17)
			h, e := wantChange(t, p, kind, node)
			seen[[]string{"OK", "ErrArg", "", "", "", "", "", "ErrOrder"}[e]]++
			if e == api.OK {
				m := h.group()
				other := s.list()
				if Wins(g, l) && Wins(m, other) && !slices.ContainsFunc(l, func(n int) bool { return slices.Contains(other, n) }) {
					t.Fatalf("%v: %v wins, and %v in %v", p, l, other, m)
				}
				p = h
			}
		}
	}
	for _, what := range []string{"won", "lost alone", "neither", "OK", "ErrArg", "ErrOrder"} {
		if seen[what] < 500 {
			t.Errorf("%s was seen %d times: %v", what, seen[what], seen)
		}
	}
}
