package rlog

import (
	"fmt"
	"math"
	"math/rand"
	"testing"

	"jetway/api"
)

// P8.5

// kept is what was committed, by Index, of which the log may only discard.
type kept map[int]api.Entry

// check notes what is committed now, and says what was changed of it, or nothing.
func (k kept) check(g *Log) string {
	for _, e := range g.Get(g.First(), g.Committed()-g.First()+1) {
		if old, ok := k[e.Index]; ok && !sameEntries([]api.Entry{old}, []api.Entry{e}) {
			return fmt.Sprintf("the committed entry %v is %v", old, e)
		}
		k[e.Index] = e
	}
	return ""
}

// falls says where terms fall along a log, or nothing.
func falls(g *Log) string {
	before, _ := g.Term(g.First() - 1)
	for i := g.First(); i <= g.Last(); i++ {
		term, ok := g.Term(i)
		if !ok || term < before {
			return fmt.Sprintf("Term(%d) is %d, %v, behind %d", i, term, ok, before)
		}
		before = term
	}
	return ""
}

// lost says which entry of l is not in the log, or nothing.
func lost(g *Log, l []api.Entry) string {
	for _, e := range l {
		if e.Index >= g.First() && !sameEntries(g.Get(e.Index, 1), []api.Entry{e}) {
			return fmt.Sprintf("%v is not there, but %v", e, g.Get(e.Index, 1))
		}
	}
	return ""
}

// state is all that can be asked of a log.
func state(g *Log) string {
	term, ok := g.Term(g.First() - 1)
	return fmt.Sprint(g.First(), g.Last(), g.Committed(), g.Applied(), term, ok, g.Get(g.First(), math.MaxInt))
}

func TestTheorem(t *testing.T) {
	merged := 0
	for seed := range int64(800) {
		s := script{rand.New(rand.NewSource(seed + 10000))}
		g, p := s.start()
		k := kept{}
		for range 60 {
			c := s.step(p)
			p, _, _ = c.plain(p)
			before, base := state(g), g.First()-1
			_, e := c.log(g)
			if e != api.OK && state(g) != before {
				t.Fatalf("seed %d: %s: error %d, and the log %s is %s", seed, c.what, e, before, state(g))
			}
			if changed := k.check(g); changed != "" {
				t.Fatalf("seed %d: %s: %s", seed, c.what, changed)
			}
			if fallen := falls(g); fallen != "" {
				t.Fatalf("seed %d: %s: %s", seed, c.what, fallen)
			}
			if g.First()-1 < base || g.Committed() < g.Applied() || g.Applied() < g.First()-1 || g.Last() < g.Committed() {
				t.Fatalf("seed %d: %s: the log is %s", seed, c.what, state(g))
			}
			i := s.near(p)
			term := s.nearTerm(p, i)
			l := s.list(p, i, term)
			n, e := g.Merge(i, term, l)
			p, _, _ = p.merge(i, term, l)
			if e != api.OK {
				continue
			}
			after := state(g)
			if gone := lost(g, l); gone != "" {
				t.Fatalf("seed %d: Merge(%d, %d, %v) of %s: %s", seed, i, term, l, after, gone)
			}
			if n, e := g.Merge(i, term, l); n != 0 || e != api.OK || state(g) != after {
				t.Fatalf("seed %d: Merge(%d, %d, %v) again: %d, error %d", seed, i, term, l, n, e)
			}
			if n > 0 {
				merged++
			}
		}
	}
	if merged < 3000 {
		t.Errorf("only %d have written something", merged)
	}
}

func TestCommittedEntriesStay(t *testing.T) {
	for committed := 3; committed <= 7; committed++ {
		for _, l := range rising(5, 4) {
			for i := 2; i <= 8; i++ {
				for term := range 5 {
					g, p := made(t, 3, 1, committed, 3, 1, 2, 2, 4)
					g.Merge(i, term, entries(i+1, l...))
					g.Add(entries(i+1, l...))
					if got, asked := g.Get(4, committed-3), p.get(4, committed-3); !sameEntries(got, asked) {
						t.Fatalf("%v: Merge(%d, %d, terms %d): %v, want %v", p, i, term, l, got, asked)
					}
				}
			}
		}
	}
}

// A list of what the log forgets or replaces is the caller's, and stays as it is.
func TestResultsStay(t *testing.T) {
	g, p := made(t, 0, 0, 2, 2, 1, 1, 2, 2)
	all, asked := g.Get(1, 9), p.get(1, 9)
	for what, change := range map[string]func(){
		"Merge":   func() { g.Merge(2, 1, entries(3, 3, 3, 3)) },
		"Add":     func() { g.Add(entries(g.Last()+1, 7)) },
		"Compact": func() { g.Compact(2) },
		"Reset":   func() { g.Reset(20, 7) },
	} {
		change()
		if !sameEntries(all, asked) {
			t.Errorf("%s has changed a result: %v", what, all)
		}
	}
}

// spoil changes all of a list, what Data holds included, and what is behind it.
func spoil(l []api.Entry) {
	for n := range l {
		clear(l[n].Data)
		_ = append(l[n].Data, 99)
		l[n] = api.Entry{Index: 77, Term: 77, Kind: 77}
	}
	_ = append(l, api.Entry{Index: 88})
}

func TestArgumentsAreNotKept(t *testing.T) {
	g, p := made(t, 0, 0, 0, 0, 1)
	l := entries(2, 1, 2, 3)
	must(t, g.Add(l))
	p = p.from(entries(2, 1, 2, 3))
	spoil(l)
	wantSame(t, "Add", g, p)
	l = append(entries(2, 1, 2, 5, 5), entries(9, 9)...)
	merge(t, "Merge", g, 1, 1, l[:4], 4, api.OK, p.from(entries(2, 1, 2, 5, 5)[2:]))
	p = p.from(entries(2, 1, 2, 5, 5)[2:])
	if !sameEntries(l, append(entries(2, 1, 2, 5, 5), entries(9, 9)...)) {
		t.Errorf("Merge has changed its argument: %v", l)
	}
	spoil(l)
	wantSame(t, "Merge", g, p)
}

func TestArgumentsAreNotChanged(t *testing.T) {
	l := make([]api.Entry, 3, 9)
	copy(l, entries(1, 1, 1, 2))
	g, _ := made(t, 0, 0, 0, 0)
	must(t, g.Add(l))
	must(t, g.Add(entries(4, 8)))
	g.Merge(0, 0, l[:2])
	g.Merge(1, 1, entries(2, 7, 7, 7))
	g.Merge(0, 0, l)
	if !sameEntries(l, entries(1, 1, 1, 2)) || !sameEntries(l[3:9], make([]api.Entry, 6)) {
		t.Errorf("the list is %v", l[:9])
	}
}

func TestResultsShareNothing(t *testing.T) {
	g, p := made(t, 0, 0, 0, 0, 1, 1, 2, 2)
	a, b := g.Get(1, 2), g.Get(1, 4)
	spoil(a)
	wantSame(t, "Get", g, p)
	if !sameEntries(b, p.get(1, 4)) {
		t.Errorf("two results share: %v", b)
	}
	// What two entries of one list hold is apart too, though they were given the same bytes.
	data := []byte("shared")
	must(t, g.Add([]api.Entry{{Index: 5, Term: 2, Data: data}, {Index: 6, Term: 2, Data: data}}))
	l := g.Get(5, 2)
	clear(l[0].Data)
	if string(l[1].Data) != "shared" || string(g.Get(5, 1)[0].Data) != "shared" {
		t.Errorf("%q, %q", l[1].Data, g.Get(5, 1)[0].Data)
	}
}

func TestMergeOfItsOwn(t *testing.T) {
	g, p := made(t, 2, 1, 4, 3, 1, 2, 2)
	merge(t, "all of it", g, 2, 1, g.Get(3, 9), 0, api.OK, p)
	l := g.Get(5, 1)
	l[0].Term = 6
	merge(t, "one is changed", g, 4, 2, l, 5, api.OK, p.from(l))
}
