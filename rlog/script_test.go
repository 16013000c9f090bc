package rlog

import (
	"fmt"
	"math/rand"
	"testing"

	"jetway/api"
)

// script draws what is done to a log.
type script struct{ *rand.Rand }

// near draws an index, mostly at or beside one of the log's places.
func (s script) near(p plain) int {
	if s.Intn(30) == 0 {
		return far[s.Intn(len(far))]
	}
	places := []int{p.base, p.applied, p.committed, p.last(), p.base + s.Intn(p.last()-p.base+1)}
	return places[s.Intn(len(places))] + s.Intn(3) - 1
}

func (s script) nearTerm(p plain, i int) int {
	if s.Intn(30) == 0 {
		return far[s.Intn(len(far))]
	}
	term, ok := p.termAt(i)
	if !ok {
		term, _ = p.termAt(p.last())
	}
	if s.Intn(5) == 0 {
		term += s.Intn(3) - 1
	}
	return term
}

// list draws entries behind i, many of them with the log's Terms, but for some that are out of order or not valid. What is in them hangs on the Index and the Term alone, as it does if each Term has one leader.
func (s script) list(p plain, i, term int) []api.Entry {
	var l []api.Entry
	like := s.Intn(3) > 0
	for range s.Intn(7) {
		i++
		if there, ok := p.termAt(i); ok && like && there >= term {
			term = there
		} else {
			term += s.Intn(2) * s.Intn(3)
			like = s.Intn(4) == 0
		}
		l = append(l, leaders(i, term))
	}
	if len(l) > 0 && s.Intn(15) == 0 {
		e := &l[s.Intn(len(l))]
		switch s.Intn(4) {
		case 0:
			*e = leaders(e.Index+s.Intn(3)-1, e.Term)
		case 1:
			*e = leaders(e.Index, e.Term+s.Intn(9)-4)
		case 2:
			e.Kind = 8 - 9*s.Intn(2)
		case 3:
			e.Data = make([]byte, 4097)
		}
	}
	return l
}

func leaders(i, term int) api.Entry {
	return api.Entry{Index: i, Term: term, Kind: (i ^ term) & 7, Data: []byte(fmt.Sprint(i, " of ", term))}
}

// step is a call, on a log and on the plain one; what both told is compared.
type step struct {
	what  string
	log   func(g *Log) (int, api.Errno)
	plain func(p plain) (plain, int, api.Errno)
}

func (s script) step(p plain) step {
	i := s.near(p)
	term := s.nearTerm(p, i)
	one := func(what string, log func(*Log) api.Errno, of func(plain) (plain, api.Errno)) step {
		return step{what, func(g *Log) (int, api.Errno) { return 0, log(g) }, func(p plain) (plain, int, api.Errno) {
			q, e := of(p)
			return q, 0, e
		}}
	}
	switch s.Intn(14) {
	case 0, 1, 2:
		last, _ := p.termAt(p.last())
		l := s.list(p, p.last(), last)
		return one(fmt.Sprint("Add ", l), func(g *Log) api.Errno { return g.Add(l) }, func(p plain) (plain, api.Errno) { return p.add(l) })
	case 3, 4, 5, 6, 7:
		l := s.list(p, i, term)
		return step{fmt.Sprint("Merge ", i, term, l), func(g *Log) (int, api.Errno) { return g.Merge(i, term, l) }, func(p plain) (plain, int, api.Errno) { return p.merge(i, term, l) }}
	case 8, 9:
		return one(fmt.Sprint("Commit ", i), func(g *Log) api.Errno { return g.Commit(i) }, func(p plain) (plain, api.Errno) { return p.commit(i) })
	case 10, 11:
		return one(fmt.Sprint("Apply ", i), func(g *Log) api.Errno { return g.Apply(i) }, func(p plain) (plain, api.Errno) { return p.apply(i) })
	case 12:
		return one(fmt.Sprint("Compact ", i), func(g *Log) api.Errno { return g.Compact(i) }, func(p plain) (plain, api.Errno) { return p.compact(i) })
	}
	return one(fmt.Sprint("Reset ", i, term), func(g *Log) api.Errno { return g.Reset(i, term) }, func(p plain) (plain, api.Errno) { return p.reset(i, term) })
}

// start draws a new log.
func (s script) start() (*Log, plain) {
	base, term := []int{0, 0, 1, 50, top - 30}[s.Intn(5)], []int{0, 0, 2, top - 30}[s.Intn(4)]
	g, _ := New(base, term)
	p, _ := plainNew(base, term)
	return g, p
}

// looks holds what only looks at the log against the second reading.
func (s script) looks(g *Log, p plain) string {
	i := s.near(p)
	term := s.nearTerm(p, i)
	if got, asked := g.Back(i, term), p.back(i, term); got != asked {
		return fmt.Sprintf("Back(%d, %d) is %d, want %d", i, term, got, asked)
	}
	if got, asked := g.Newer(i, term), p.newer(i, term); got != asked {
		return fmt.Sprintf("Newer(%d, %d) is %v, want %v", i, term, got, asked)
	}
	if from, most := s.near(p), s.Intn(9)-1; !sameEntries(g.Get(from, most), p.get(from, most)) {
		return fmt.Sprintf("Get(%d, %d) is %v, want %v", from, most, g.Get(from, most), p.get(from, most))
	}
	return p.unlike(g)
}

// P8.1 to P8.4, along many scripts

func TestLogIsAsTheWordsSay(t *testing.T) {
	seen := map[string]int{}
	for seed := range int64(2000) {
		s := script{rand.New(rand.NewSource(seed))}
		g, p := s.start()
		for range 60 {
			c := s.step(p)
			before := p
			q, asked, code := c.plain(p)
			p = q
			n, e := c.log(g)
			if n != asked || e != code {
				t.Fatalf("seed %d: %v: %s: %d, error %d; want %d, error %d", seed, before, c.what, n, e, asked, code)
			}
			if unlike := s.looks(g, p); unlike != "" {
				t.Fatalf("seed %d: %v: %s: %s", seed, before, c.what, unlike)
			}
			seen[fmt.Sprint(c.what[:3], " ", e, " ", n > 0)]++
		}
	}
	// So that the scripts do not leave out an answer that a call may give.
	for _, what := range []string{
		"Add 0 false", "Add 1 false", "Add 7 false", "Mer 0 false", "Mer 0 true", "Mer 1 false", "Mer 7 false", "Mer 9 false",
		"Com 0 false", "Com 7 false", "App 0 false", "App 7 false", "Res 0 false", "Res 1 false", "Res 7 false",
	} {
		if seen[what] < 100 {
			t.Errorf("%s too seldom: %v", what, seen)
		}
	}
}
