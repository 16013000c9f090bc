package rlog

import (
	"fmt"
	"math"
	"slices"
	"testing"

	"jetway/api"
)

// P8.2

// merge calls Merge, and checks the result and that the log is as asked then.
func merge(t *testing.T, what string, g *Log, i, term int, l []api.Entry, asked int, code api.Errno, then plain) {
	t.Helper()
	n, e := g.Merge(i, term, l)
	if n != asked || e != code {
		t.Fatalf("%s: %d, error %d; want %d, error %d", what, n, e, asked, code)
	}
	wantSame(t, what, g, then)
}

// wrongs are entries of which each is wrong in one thing alone; the Index of the right one is given.
func wrongs(index int) []api.Entry {
	right := api.Entry{Index: index, Term: 9, Kind: 1, Data: []byte("x")}
	var l []api.Entry
	for _, change := range []func(e *api.Entry){
		func(e *api.Entry) { e.Index = 0 },
		func(e *api.Entry) { e.Index = -1 },
		func(e *api.Entry) { e.Index = top + 1 },
		func(e *api.Entry) { e.Index = math.MinInt },
		func(e *api.Entry) { e.Index = math.MaxInt },
		func(e *api.Entry) { e.Term = -1 },
		func(e *api.Entry) { e.Term = top + 1 },
		func(e *api.Entry) { e.Term = math.MinInt },
		func(e *api.Entry) { e.Term = math.MaxInt },
		func(e *api.Entry) { e.Kind = -1 },
		func(e *api.Entry) { e.Kind = 8 },
		func(e *api.Entry) { e.Kind = math.MaxInt },
		func(e *api.Entry) { e.Data = make([]byte, 4097) },
		func(e *api.Entry) { e.Data = make([]byte, 70000) },
	} {
		wrong := right
		change(&wrong)
		l = append(l, wrong)
	}
	return l
}

func TestExample(t *testing.T) {
	g, e := New(0, 0)
	must(t, e)
	must(t, g.Add([]api.Entry{{Index: 1, Term: 1}, {Index: 2, Term: 1}}))
	if n, e := g.Merge(1, 1, []api.Entry{{Index: 2, Term: 2}}); n != 2 || e != api.OK {
		t.Errorf("%d, error %d", n, e)
	}
	if term, ok := g.Term(2); term != 2 || !ok {
		t.Errorf("Term(2) is %d, %v", term, ok)
	}
	must(t, g.Commit(2))
	if n, e := g.Merge(1, 1, []api.Entry{{Index: 2, Term: 3}}); n != 0 || e != api.ErrKept {
		t.Errorf("%d, error %d", n, e)
	}
	if term, ok := g.Term(2); term != 2 || !ok || g.Last() != 2 {
		t.Errorf("Term(2) is %d, %v, Last %d", term, ok, g.Last())
	}
}

func TestAdd(t *testing.T) {
	for _, l := range [][]api.Entry{
		nil, {}, entries(6, 2), entries(6, 3), entries(6, top), entries(6, 2, 2, 2), entries(6, 2, 3, 9),
		{{Index: 6, Term: 2, Kind: 0}}, {{Index: 6, Term: 2, Kind: 7}}, {{Index: 6, Term: 2, Kind: 2, Data: []byte{}}}, {{Index: 6, Term: 2, Data: make([]byte, 4096)}},
	} {
		g, p := made(t, 3, 1, 4, 4, 1, 2)
		must(t, g.Add(l))
		wantSame(t, "Add", g, p.from(l))
		must(t, g.Add(nil))
		wantSame(t, "Add of none", g, p.from(l))
	}
}

func TestAddToANewLog(t *testing.T) {
	for _, base := range []int{0, 1, 300, top - 3, top - 1} {
		for _, term := range []int{0, 1, top - 1, top} {
			g, p := made(t, base, term, base, base)
			for i := base + 1; i <= min(base+3, top); i++ {
				l := entries(i, min(top, term+i-base-1))
				must(t, g.Add(l))
				p = p.from(l)
				wantSame(t, "Add", g, p)
			}
			if term > 0 {
				g, p := made(t, base, term, base, base)
				want(t, "a Term below the base's", g.Add(entries(base+1, term-1)), api.ErrOrder)
				wantSame(t, "Add", g, p)
			}
		}
	}
}

func TestAddAtTheGreatestIndex(t *testing.T) {
	g, p := made(t, top-2, 5, top-2, top-2)
	want(t, "beyond", g.Add(entries(top-1, 5, 5, 5)), api.ErrArg)
	wantSame(t, "beyond", g, p)
	must(t, g.Add(entries(top-1, 5, 5)))
	p = p.from(entries(top-1, 5, 5))
	wantSame(t, "Add", g, p)
	want(t, "beyond", g.Add(entries(top+1, 5)), api.ErrArg)
	must(t, g.Add(nil))
	merge(t, "beyond", g, top, 5, entries(top+1, 5), 0, api.ErrArg, p)
	merge(t, "at the end", g, top, 5, nil, 0, api.OK, p)
	merge(t, "the last one", g, top-1, 5, entries(top, 6), top, api.OK, p.from(entries(top, 6)))
}

func TestAddOutOfOrder(t *testing.T) {
	for name, l := range map[string][]api.Entry{
		"one is left out":      entries(7, 2),
		"one is there already": entries(5, 2),
		"at the base":          entries(3, 2),
		"below the base":       entries(1, 2),
		"far above":            entries(top, 2),
		"a gap":                append(entries(6, 2), entries(8, 2)...),
		"twice":                append(entries(6, 2), entries(6, 2)...),
		"falling":              append(entries(6, 2, 2), entries(6, 2)...),
		"a Term below Last's":  entries(6, 1),
		"a falling Term":       entries(6, 2, 4, 3),
		"a Term of 0":          entries(6, 0),
		"the third one":        entries(6, 4, 4, 2),
	} {
		g, p := made(t, 3, 1, 4, 4, 1, 2)
		want(t, name, g.Add(l), api.ErrOrder)
		wantSame(t, name, g, p)
	}
}

func TestAddOfWrongEntries(t *testing.T) {
	for n, wrong := range wrongs(6) {
		wrong2, wrong3 := wrongs(7)[n], wrongs(9)[n]
		for k, l := range [][]api.Entry{
			{wrong},
			append(entries(6, 2), wrong2),
			{wrong, entries(7, 9)[0]},
			// Out of order too, which is named second.
			append(entries(6, 2), wrong3),
			append(entries(5, 2), wrong),
			{wrong3, entries(1, 0)[0]},
		} {
			g, p := made(t, 3, 1, 4, 4, 1, 2)
			what := fmt.Sprint("wrong ", n, " in list ", k)
			want(t, what, g.Add(l), api.ErrArg)
			wantSame(t, what, g, p)
		}
	}
}

func TestMergeOfWrongEntries(t *testing.T) {
	for n := range wrongs(6) {
		// At places that are in the log, below and above it, committed and not: being wrong is named first.
		for i := 0; i <= 9; i++ {
			for k, l := range [][]api.Entry{
				{wrongs(i + 1)[n]},
				append(entries(i+1, 2), wrongs(i + 2)[n]),
				append(entries(i+1, 8, 9), wrongs(i + 3)[n]),
				{wrongs(i + 1)[n], entries(i+2, 9)[0]},
			} {
				g, p := made(t, 3, 1, 5, 4, 1, 2, 2, 2)
				for _, term := range []int{0, 1, 2} {
					merge(t, fmt.Sprint("wrong ", n, " in list ", k, " at ", i), g, i, term, l, 0, api.ErrArg, p)
				}
			}
		}
	}
}

func TestMergeOfEntriesThatDoNotFollow(t *testing.T) {
	for i := -1; i <= 9; i++ {
		for name, l := range map[string][]api.Entry{
			"one is left out":      entries(i+2, 2),
			"one at the index":     entries(max(i, 1), 2),
			"a gap":                append(entries(i+1, 2), entries(i+3, 2)...),
			"twice":                append(entries(i+1, 2), entries(i+1, 2)...),
			"a Term below the one": entries(i+1, 1),
			"a falling Term":       entries(i+1, 2, 4, 3),
			"the third one":        entries(i+1, 4, 4, 2),
			"far above":            entries(top, 2),
		} {
			if name == "one at the index" && i < 1 {
				continue
			}
			g, p := made(t, 3, 1, 5, 4, 1, 2, 2, 2)
			merge(t, fmt.Sprint(name, " at ", i), g, i, 2, l, 0, api.ErrArg, p)
		}
	}
	for _, i := range []int{math.MinInt, -top, -2, top + 1, math.MaxInt} {
		g, p := made(t, 3, 1, 5, 4, 1, 2, 2, 2)
		for _, from := range []int{1, 4, 8, top} {
			merge(t, fmt.Sprint(from, " behind ", i), g, i, 2, entries(from, 2), 0, api.ErrArg, p)
		}
	}
}

func TestMergeOfNone(t *testing.T) {
	g, p := made(t, 3, 1, 5, 4, 1, 2, 2, 4)
	for _, l := range [][]api.Entry{nil, {}} {
		for _, term := range append([]int{2, 3, 4, 5}, far...) {
			for _, i := range append([]int{2, 3, 4, 5, 6, 7, 8}, far...) {
				asked := api.ErrOrder
				if there, ok := p.termAt(i); i < 3 || ok && there == term {
					asked = api.OK
				}
				merge(t, fmt.Sprintf("none behind %d of term %d", i, term), g, i, term, l, 0, asked, p)
			}
		}
	}
}

func TestMerge(t *testing.T) {
	for _, c := range []struct {
		name    string
		i, term int
		l       []api.Entry
		asked   int
		code    api.Errno
	}{
		{"behind Last", 7, 4, entries(8, 4, 5), 8, api.OK},
		{"behind Last, another term", 7, 3, entries(8, 4), 0, api.ErrOrder},
		{"behind Last, a greater term", 7, 5, entries(8, 5), 0, api.ErrOrder},
		{"an index that is not there", 8, 4, entries(9, 4), 0, api.ErrOrder},
		{"at the base, all are there", 3, 1, entries(4, 1, 2, 2, 4), 0, api.OK},
		{"at the base, some are there", 3, 1, entries(4, 1, 2), 0, api.OK},
		{"at the base, one is more", 3, 1, entries(4, 1, 2, 2, 4, 4), 8, api.OK},
		{"at the base, the last one is unlike", 3, 1, entries(4, 1, 2, 2, 3), 7, api.OK},
		{"at the base, the last two are unlike", 3, 1, entries(4, 1, 2, 3, 3), 6, api.OK},
		{"at the base, another term", 3, 0, entries(4, 1, 2), 0, api.ErrOrder},
		{"in the log, one is there", 5, 2, entries(6, 2), 0, api.OK},
		{"in the log, one is unlike", 5, 2, entries(6, 3), 6, api.OK},
		{"in the log, another term", 6, 3, entries(7, 4), 0, api.ErrOrder},
		{"in the log, a term below all", 6, -5, entries(7, 4), 0, api.ErrOrder},
		{"unlike at Committed", 4, 1, entries(5, 3), 0, api.ErrKept},
		{"unlike at Committed, and more", 4, 1, entries(5, 3, 3, 4, 5), 0, api.ErrKept},
		{"unlike below Committed", 3, 1, entries(4, 2, 2, 2), 0, api.ErrKept},
		{"unlike behind Committed", 4, 1, entries(5, 2, 4), 6, api.OK},
		{"another term, and unlike at Committed", 4, 2, entries(5, 3), 0, api.ErrOrder},
		{"below the base, none behind it", 1, 0, entries(2, 1, 1), 0, api.OK},
		{"below the base, another term, none behind it", 1, 7, entries(2, 8, 9), 0, api.OK},
		{"below the base, all below it", 0, 0, entries(1, 1), 0, api.OK},
		{"below the base, all are there", 1, 0, entries(2, 1, 1, 1, 2), 0, api.OK},
		{"below the base, another term at it", 1, 0, entries(2, 0, 0, 1, 2), 0, api.OK},
		{"below the base, a term below its at it", 1, 0, entries(2, 0, 0, 0, 2), 0, api.ErrOrder},
		{"below the base, a negative term", 1, -9, entries(2, 0, 0, 1, 2, 4), 6, api.OK},
		{"below the base, up to above Last", 0, 0, entries(1, 1, 1, 1, 1, 2, 2, 4, 6), 8, api.OK},
		{"below the base, unlike behind Committed", 2, 1, entries(3, 1, 1, 2, 3, 3), 6, api.OK},
		{"below the base, unlike at Committed", 2, 1, entries(3, 1, 1, 3), 0, api.ErrKept},
		{"below the base, unlike behind it", 2, 1, entries(3, 2, 2), 0, api.ErrKept},
	} {
		g, p := made(t, 3, 1, 5, 4, 1, 2, 2, 4)
		before := p
		if c.asked > 0 {
			p = p.from(c.l[c.asked-c.i-1:])
		}
		merge(t, c.name, g, c.i, c.term, c.l, c.asked, c.code, p)
		if c.code == api.OK {
			merge(t, c.name+", again", g, c.i, c.term, c.l, 0, api.OK, p)
		} else {
			wantSame(t, c.name, g, before)
		}
	}
}

// A log is only asked for Terms: an entry that is there stays, whatever else of it is unlike.
func TestMergeLooksAtTermsAlone(t *testing.T) {
	g, p := made(t, 3, 1, 5, 4, 1, 2, 2, 4)
	l := entries(4, 1, 2, 2, 4)
	for n := range l {
		l[n].Kind, l[n].Data = 7-l[n].Kind, []byte("other")
	}
	merge(t, "there already", g, 3, 1, l, 0, api.OK, p)
	more := append(l, api.Entry{Index: 8, Term: 4, Kind: 5, Data: []byte("new")})
	merge(t, "one is more", g, 3, 1, more, 8, api.OK, p.from(more[4:]))
}

func TestMergeIntoAnEmptyLog(t *testing.T) {
	for _, base := range []int{0, 1, 5, top - 2} {
		for _, baseTerm := range []int{0, 3, top} {
			for i := max(0, base-2); i <= base+1; i++ {
				for _, term := range []int{-1, 0, 2, 3, 4, top} {
					for _, terms := range [][]int{{}, {term}, {term, term}, {term, term, top}, {0, 0}, {3, 3}, {top}} {
						g, p := made(t, base, baseTerm, base, base)
						l := entries(i+1, terms...)
						then, asked, code := p.merge(i, term, l)
						merge(t, fmt.Sprintf("%v: Merge(%d, %d, terms %d)", p, i, term, terms), g, i, term, l, asked, code, then)
					}
				}
			}
		}
	}
}

// rising are all lists of up to many terms from 0 to most that do not fall.
func rising(many, most int) [][]int {
	all := [][]int{{}}
	for n := 0; n < len(all); n++ {
		l := all[n]
		if len(l) == many {
			continue
		}
		least := 0
		if len(l) > 0 {
			least = l[len(l)-1]
		}
		for term := least; term <= most; term++ {
			all = append(all, append(slices.Clone(l), term))
		}
	}
	return all
}

// TestMergeOfAllSmallLists holds Merge against the second reading, for all small logs and all small lists.
func TestMergeOfAllSmallLists(t *testing.T) {
	lists := rising(4, 2)
	seen := map[api.Errno]int{}
	for _, terms := range rising(4, 2)[1:] {
		// The first one is the base's.
		for committed := 2; committed <= 1+len(terms); committed++ {
			p := plain{base: 2, term: terms[0], committed: committed, applied: 2}.from(entries(3, terms[1:]...))
			for i := range 7 {
				for term := -1; term <= 3; term++ {
					for _, list := range lists {
						l := entries(i+1, list...)
						for n := range l {
							l[n].Data = []byte("merged")
						}
						g := p.log()
						then, asked, code := p.merge(i, term, l)
						merge(t, fmt.Sprintf("%v: Merge(%d, %d, terms %d)", p, i, term, list), g, i, term, l, asked, code, then)
						seen[code]++
						if asked > 0 {
							seen[-1]++
						}
					}
				}
			}
		}
	}
	for _, code := range []api.Errno{-1, api.OK, api.ErrArg, api.ErrOrder, api.ErrKept} {
		if seen[code] < 300 {
			t.Errorf("too few results: %v", seen)
		}
	}
}
