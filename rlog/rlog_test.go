package rlog

import (
	"fmt"
	"math"
	"testing"

	"jetway/api"
)

// far are numbers that are neither an Index nor a Term, and near the ends of what is one.
var far = []int{math.MinInt, math.MinInt + 1, -top, -1, 0, 1, top - 1, top, top + 1, math.MaxInt - 1, math.MaxInt}

func must(t *testing.T, e api.Errno) {
	t.Helper()
	want(t, "a call that may not fail", e, api.OK)
}

func want(t *testing.T, what string, e, asked api.Errno) {
	t.Helper()
	if e != asked {
		t.Fatalf("%s: error %d, want %d", what, e, asked)
	}
}

func wantSame(t *testing.T, what string, g *Log, p plain) {
	t.Helper()
	if s := p.unlike(g); s != "" {
		t.Fatalf("%v: %s: %s", p, what, s)
	}
}

// entries are as many as there are terms, from an Index on, with different Data.
func entries(from int, terms ...int) []api.Entry {
	var l []api.Entry
	for n, term := range terms {
		l = append(l, api.Entry{Index: from + n, Term: term, Kind: n % 8, Data: []byte(fmt.Sprint("of ", from+n))})
	}
	return l
}

// made is a log with entries of these terms, and the plain one of it.
func made(t *testing.T, base, term, committed, applied int, terms ...int) (*Log, plain) {
	t.Helper()
	p, e := plainNew(base, term)
	must(t, e)
	p = p.from(entries(base+1, terms...))
	p.committed, p.applied = committed, applied
	g := p.log()
	wantSame(t, "made", g, p)
	return g, p
}

// P8.1

func TestNew(t *testing.T) {
	for _, base := range far {
		for _, term := range far {
			what := fmt.Sprintf("New(%d, %d)", base, term)
			g, e := New(base, term)
			p, asked := plainNew(base, term)
			want(t, what, e, asked)
			if (g == nil) != (e != api.OK) {
				t.Fatalf("%s: %v, error %d", what, g, e)
			}
			if g != nil {
				wantSame(t, what, g, p)
			}
		}
	}
}

func TestNewHasNoEntries(t *testing.T) {
	for _, c := range []struct{ base, term int }{{0, 0}, {7, 3}, {0, top}, {top, 0}, {top, top}} {
		g, e := New(c.base, c.term)
		must(t, e)
		if g.First() != c.base+1 || g.Last() != c.base || g.Committed() != c.base || g.Applied() != c.base {
			t.Errorf("%v: %d, %d, %d, %d", c, g.First(), g.Last(), g.Committed(), g.Applied())
		}
		if term, ok := g.Term(c.base); term != c.term || !ok {
			t.Errorf("%v: the base's term is %d, %v", c, term, ok)
		}
		for _, i := range []int{c.base - 1, c.base + 1} {
			if term, ok := g.Term(i); term != 0 || ok {
				t.Errorf("%v: Term(%d) is %d, %v", c, i, term, ok)
			}
		}
		for _, from := range []int{c.base - 1, c.base, c.base + 1, c.base + 2} {
			if l := g.Get(from, 5); len(l) != 0 {
				t.Errorf("%v: Get(%d, 5) is %v", c, from, l)
			}
		}
	}
}

func TestLogsAreTheirOwn(t *testing.T) {
	a, p := made(t, 0, 0, 1, 1, 1, 2)
	b, q := made(t, 0, 0, 0, 0, 3)
	must(t, b.Add(entries(2, 4, 5)))
	must(t, b.Commit(3))
	wantSame(t, "another log has changed", a, p)
	must(t, a.Compact(1))
	q = q.from(entries(2, 4, 5))
	q.committed = 3
	wantSame(t, "another log has changed", b, q)
}

func TestTerm(t *testing.T) {
	g, _ := made(t, 4, 2, 4, 4, 2, 3, 3, 9)
	for i, term := range map[int]int{4: 2, 5: 2, 6: 3, 7: 3, 8: 9} {
		if got, ok := g.Term(i); got != term || !ok {
			t.Errorf("Term(%d) is %d, %v", i, got, ok)
		}
	}
	for _, i := range append([]int{2, 3, 9, 10}, far...) {
		if got, ok := g.Term(i); got != 0 || ok {
			t.Errorf("Term(%d) is %d, %v", i, got, ok)
		}
	}
}

func TestGet(t *testing.T) {
	for _, c := range []struct {
		base  int
		terms []int
	}{{0, []int{1}}, {0, []int{1, 1, 2, 3}}, {5, []int{7, 7, 7}}, {top - 2, []int{8, top}}} {
		g, p := made(t, c.base, 1, c.base, c.base, c.terms...)
		all := entries(c.base+1, c.terms...)
		froms := append([]int{}, far...)
		for from := c.base - 2; from <= g.Last()+2; from++ {
			froms = append(froms, from)
		}
		for _, from := range froms {
			for _, most := range append([]int{2, 3, 4, 5}, far...) {
				var asked []api.Entry
				for _, e := range all {
					if from > c.base && e.Index >= from && e.Index-from < most {
						asked = append(asked, e)
					}
				}
				if l := g.Get(from, most); !sameEntries(l, asked) {
					t.Errorf("%v: Get(%d, %d) is %v, want %v", p, from, most, l, asked)
				}
			}
		}
		wantSame(t, "Get", g, p)
	}
}

// P8.3

func TestCommit(t *testing.T) {
	for committed := 3; committed <= 6; committed++ {
		for _, i := range append([]int{2, 3, 4, 5, 6, 7, 8}, far...) {
			what := fmt.Sprintf("Commit(%d)", i)
			g, p := made(t, 3, 1, committed, 3, 1, 2, 2)
			asked := api.ErrOrder
			if committed <= i && i <= 6 {
				asked = api.OK
				p.committed = i
			}
			want(t, what, g.Commit(i), asked)
			wantSame(t, what, g, p)
		}
	}
}

func TestApply(t *testing.T) {
	for committed := 3; committed <= 6; committed++ {
		for applied := 3; applied <= committed; applied++ {
			for _, i := range append([]int{2, 3, 4, 5, 6, 7, 8}, far...) {
				what := fmt.Sprintf("Apply(%d)", i)
				g, p := made(t, 3, 1, committed, applied, 1, 2, 2)
				asked := api.ErrOrder
				if applied <= i && i <= committed {
					asked = api.OK
					p.applied = i
				}
				want(t, what, g.Apply(i), asked)
				wantSame(t, what, g, p)
			}
		}
	}
}

func TestCompact(t *testing.T) {
	terms := []int{1, 2, 2}
	for committed := 3; committed <= 6; committed++ {
		for applied := 3; applied <= committed; applied++ {
			for _, i := range append([]int{2, 3, 4, 5, 6, 7, 8}, far...) {
				what := fmt.Sprintf("Compact(%d)", i)
				g, p := made(t, 3, 1, committed, applied, terms...)
				asked := api.ErrOrder
				if 3 <= i && i <= applied {
					asked = api.OK
					// What is left is as it was, and the base has the term of the entry that was there.
					p.base, p.term = i, []int{1, 1, 2, 2}[i-3]
					p.entries = map[int]api.Entry{}
					for _, e := range entries(4, terms...)[i-3:] {
						p.entries[e.Index] = e
					}
				}
				want(t, what, g.Compact(i), asked)
				wantSame(t, what, g, p)
			}
		}
	}
}

func TestCompactOnAndOn(t *testing.T) {
	g, p := made(t, 0, 0, 0, 0)
	for i := 1; i <= 200; i++ {
		l := entries(i, i/3)
		must(t, g.Add(l))
		p = p.from(l)
		must(t, g.Commit(i))
		must(t, g.Apply(i))
		p.committed, p.applied = i, i
		if i%7 == 0 {
			must(t, g.Compact(i-3))
			p, _ = p.compact(i - 3)
		}
		wantSame(t, fmt.Sprint("behind ", i), g, p)
	}
}

func TestReset(t *testing.T) {
	for committed := 3; committed <= 6; committed++ {
		for _, i := range append([]int{2, 3, 4, 5, 6, 7, 8, 1000}, far...) {
			for _, term := range append([]int{2}, far...) {
				what := fmt.Sprintf("Reset(%d, %d)", i, term)
				g, p := made(t, 3, 1, committed, 3, 1, 2, 2)
				asked := api.OK
				switch {
				case i < 0 || i > top || term < 0 || term > top:
					asked = api.ErrArg
				case i < committed:
					asked = api.ErrOrder
				default:
					p = plain{base: i, term: term, committed: i, applied: i}
				}
				want(t, what, g.Reset(i, term), asked)
				wantSame(t, what, g, p)
			}
		}
	}
}

func TestAddBehindReset(t *testing.T) {
	g, _ := made(t, 0, 0, 1, 1, 1, 2, 2)
	must(t, g.Reset(2, 1))
	want(t, "the old Last", g.Add(entries(4, 2)), api.ErrOrder)
	must(t, g.Add(entries(3, 1, 5)))
	wantSame(t, "Add behind Reset", g, plain{base: 2, term: 1, committed: 2, applied: 2}.from(entries(3, 1, 5)))
}

// P8.4

func TestBack(t *testing.T) {
	for _, terms := range [][]int{{}, {1}, {3}, {1, 1, 1}, {1, 2, 3, 4}, {2, 2, 4, 4, 4, 7}, {9, 9}} {
		for _, base := range []int{0, 3, top - 6} {
			for baseTerm := range 2 {
				g, p := made(t, base, baseTerm, base, base, terms...)
				for i := base - 2; i <= base+8; i++ {
					for term := -1; term <= 10; term++ {
						if got := g.Back(i, term); got != p.back(i, term) {
							t.Fatalf("%v: Back(%d, %d) is %d, want %d", p, i, term, got, p.back(i, term))
						}
					}
				}
				for _, i := range far {
					for _, term := range far {
						if got := g.Back(i, term); got != p.back(i, term) {
							t.Fatalf("%v: Back(%d, %d) is %d, want %d", p, i, term, got, p.back(i, term))
						}
					}
				}
				wantSame(t, "Back", g, p)
			}
		}
	}
}

func TestBackExamples(t *testing.T) {
	g, _ := made(t, 2, 1, 2, 2, 1, 3, 3, 5)
	for _, c := range []struct{ i, term, asked int }{
		{6, 5, 6}, {6, 9, 6}, {100, 5, 6}, {math.MaxInt, math.MaxInt, 6}, {5, 5, 5}, {6, 4, 5}, {6, 3, 5}, {5, 3, 5}, {4, 3, 4}, {6, 2, 3}, {4, 2, 3}, {4, 1, 3},
		{3, 1, 3}, {2, 1, 2}, {6, 0, 2}, {6, -1, 2}, {3, 0, 2}, {2, 0, 2}, {1, 9, 2}, {0, 1, 2}, {-1, 1, 2}, {math.MinInt, math.MaxInt, 2}, {math.MaxInt, math.MinInt, 2},
	} {
		if got := g.Back(c.i, c.term); got != c.asked {
			t.Errorf("Back(%d, %d) is %d, want %d", c.i, c.term, got, c.asked)
		}
	}
}

func TestBackOfLongLogs(t *testing.T) {
	var terms []int
	for n := range 300 {
		terms = append(terms, n/10*2)
	}
	g, p := made(t, 20, 0, 20, 20, terms...)
	for i := 18; i < 325; i++ {
		for term := -1; term < 62; term++ {
			if got := g.Back(i, term); got != p.back(i, term) {
				t.Fatalf("Back(%d, %d) is %d, want %d", i, term, got, p.back(i, term))
			}
		}
	}
}

func TestNewer(t *testing.T) {
	for _, terms := range [][]int{{}, {4}, {1, 4}, {4, 4}} {
		g, p := made(t, 3, 4*(1-min(1, len(terms))), 3, 3, terms...)
		last := 3 + len(terms)
		for _, c := range []struct {
			i, term int
			asked   bool
		}{
			{last, 4, true}, {last + 1, 4, true}, {last - 1, 4, false}, {last, 5, true}, {last - 1, 5, true}, {0, 5, true}, {last, 3, false}, {last + 1, 3, false},
			{math.MaxInt, 4, true}, {math.MinInt, 4, false}, {math.MinInt, math.MaxInt, true}, {math.MaxInt, math.MinInt, false}, {math.MaxInt, -1, false}, {-1, 5, true},
		} {
			if got := g.Newer(c.i, c.term); got != c.asked || got != p.newer(c.i, c.term) {
				t.Errorf("%v: Newer(%d, %d) is %v", p, c.i, c.term, got)
			}
		}
		wantSame(t, "Newer", g, p)
	}
}
