package elect

import (
	"fmt"
	"math/rand"
	"testing"

	"jetway/api"
)

// P10.1 to P10.4 along scripts: short ones, all of them, and long ones that are drawn.

// alphabet are calls for a node 1 of few terms.
func alphabet() []call {
	l := []call{
		tick(0), tick(1), heard(2, 1), heard(3, 2),
		join(voters(1, 2, 3)), join(voters(1, 2)), join(voters(2, 3)), join(voters(1)),
	}
	for _, kind := range []int{api.Pre, api.PreSay, api.Ask, api.Say} {
		for _, from := range []int{2, 3} {
			for term := range 3 {
				l = append(l, noOf(kind, from, term))
				if kind == api.PreSay || kind == api.Say {
					l = append(l, yesOf(kind, from, term))
				}
			}
		}
	}
	return append(l, takeAt(ballot(api.Ask, 2, 1, false), 1, 0), takeAt(ballot(api.Pre, 2, 2, false), 1, 0))
}

// The first way to each state is taken on by each call.
func TestStatesAreAsTheWordsSay(t *testing.T) {
	const most = 3 // of the terms of states that are taken on
	all := alphabet()
	for _, h := range []history{
		{id: 1, group: voters(1, 2, 3), patience: 1},
		{id: 1, group: voters(1, 2, 3), patience: 2},
		{id: 1, group: api.Group{Voters: []int{2, 3}, Learners: []int{1}}, patience: 2},
	} {
		seen := map[plain]bool{}
		ways := []history{h}
		roles := map[int]int{}
		for len(ways) > 0 && len(seen) < 3000 {
			h, p := ways[0], ways[0].plain(t)
			ways = ways[1:]
			if seen[p] || p.term > most || p.waited > 3 {
				continue
			}
			seen[p] = true
			roles[p.role]++
			for _, c := range all {
				wantCall(t, h, h.node(t), p, c)
				ways = append(ways, h.then(c))
			}
		}
		for role := range 4 {
			if roles[role] == 0 {
				t.Errorf("%v: states %v", h, roles)
			}
		}
	}
}

// script draws what is done to a node.
type script struct{ *rand.Rand }

func (s script) group() api.Group {
	var g api.Group
	most := []int{1, 2, 3, 3, 5, 15}[s.Intn(6)]
	for len(g.Voters) == 0 {
		g = api.Group{}
		for n := 1; n <= most; n++ {
			switch s.Intn(6) {
			case 0:
				g.Learners = append(g.Learners, n)
			case 1:
			default:
				g.Voters = append(g.Voters, n)
			}
		}
	}
	return g
}

// some draws a node, mostly one of the group, and now and then none.
func (s script) some(p plain) int {
	if s.Intn(25) == 0 {
		return []int{-1, 0, 16, p.id}[s.Intn(4)]
	}
	for range 20 {
		if n := s.Intn(15) + 1; n != p.id && (p.members[n] == voter || s.Intn(12) == 0) {
			return n
		}
	}
	return p.id%15 + 1
}

func (s script) term(p plain) int {
	if s.Intn(30) == 0 {
		return far[s.Intn(len(far))]
	}
	return p.term + []int{-1, 0, 0, 0, 1, 1, 2}[s.Intn(7)]
}

func (s script) log() (last, term int) { return s.Intn(3), s.Intn(2) }

func (s script) ballot(p plain) api.Ballot {
	b := api.Ballot{Kind: s.Intn(4) + 1, From: s.some(p), To: p.id, Term: s.term(p), Yes: s.Intn(3) > 0}
	if p.role == api.Hopeful && s.Intn(2) == 0 {
		b.Kind = api.PreSay
		b.Term = p.term
		if b.Yes {
			b.Term++
		}
	}
	if p.role == api.Candidate && s.Intn(2) == 0 {
		b.Kind, b.Term = api.Say, p.term
	}
	b.Index, b.LogTerm = s.log()
	switch s.Intn(40) {
	case 0:
		b.Kind = []int{-1, 0, 5}[s.Intn(3)]
	case 1:
		b.To = s.Intn(18) - 1
	}
	return b
}

func (s script) call(p plain) call {
	last, term := s.log()
	often := 40 // in a hundred it ticks
	if p.role != api.Follower {
		often = 15
	}
	switch n := s.Intn(100); {
	case n < often:
		return tickAt(s.Intn(12)-1, last, term)
	case n < 90:
		return takeAt(s.ballot(p), last, term)
	case n < 96:
		return heard(s.some(p), s.term(p))
	case n < 97:
		return join([]api.Group{{}, {Voters: []int{2, 1}}, {Voters: []int{1}, Learners: []int{1}}}[s.Intn(3)])
	}
	return join(s.group())
}

func (s script) start() history {
	g := s.group()
	h := history{id: s.Intn(15) + 1, group: g, patience: []int{1, 2, 2, 3, 3, 5}[s.Intn(6)]}
	if s.Intn(8) > 0 {
		h.id = g.Voters[s.Intn(len(g.Voters))]
	}
	h.hard = api.Hard{Term: []int{0, 0, 1, 7, top - 3, top}[s.Intn(6)], Vote: s.Intn(4)}
	return h
}

// noted says what came of a call, for the count of what the scripts have seen.
func noted(before plain, c call, after plain) string {
	return fmt.Sprintf("%s %d %d %t", c.what[:4], before.role, after.role, after.term > before.term)
}

func TestScripts(t *testing.T) {
	seen := map[string]int{}
	for seed := range int64(3000) {
		s := script{rand.New(rand.NewSource(seed))}
		h := s.start()
		n, p := h.node(t), h.plain(t)
		var done []call
		for range 60 {
			c := s.call(p)
			q := wantCall(t, behind{h, done}, n, p, c)
			seen[noted(p, c, q)]++
			p, done = q, append(done, c)
		}
	}
	for _, what := range []string{
		"Tick 0 0 false", "Tick 0 1 false", "Tick 0 3 true", "Tick 1 1 false", "Tick 2 1 false", "Tick 3 3 false",
		"Take 0 0 false", "Take 0 0 true", "Take 1 1 false", "Take 1 0 false", "Take 1 0 true", "Take 1 2 true", "Take 2 2 false", "Take 2 0 false", "Take 2 0 true", "Take 2 3 false", "Take 3 3 false", "Take 3 0 true",
		"Hear 0 0 false", "Hear 0 0 true", "Hear 1 0 false", "Hear 1 0 true", "Hear 2 0 false", "Hear 2 0 true", "Hear 3 0 true", "Hear 3 3 false",
		"Join 0 0 false", "Join 1 1 false", "Join 2 2 false", "Join 3 3 false",
	} {
		if seen[what] < 60 {
			t.Fatalf("%s was seen %d times: %v", what, seen[what], seen)
		}
	}
}

// What is called at the end of a script, and changes nothing by the document, changes nothing that is told later.
func TestScriptsEndAlike(t *testing.T) {
	for seed := range int64(300) {
		s := script{rand.New(rand.NewSource(seed + 50000))}
		h := s.start()
		p := h.plain(t)
		for range 25 {
			c := s.call(p)
			p, _ = c.plain(p)
			h = h.then(c)
		}
		wantFutures(t, h, p)
		for _, b := range spoiled(api.Ballot{Kind: s.Intn(4) + 1, From: p.id%15 + 1, To: p.id, Term: p.term, Yes: s.Intn(2) == 0}) {
			if b.To == p.id && within(1, b.From, 15) && b.From != p.id && within(0, b.Term, top) {
				continue
			}
			h = h.then(take(b))
		}
		h = h.then(noOf(api.Pre, p.id%15+1, p.term), heard(0, p.term), heard(p.id, p.term), heard(p.id%15+1, p.term-1), join(api.Group{}))
		wantFutures(t, h, p)
	}
}
