package rlog

import (
	"bytes"
	"fmt"
	"maps"
	"slices"
	"strings"

	"jetway/api"
)

// This file follows the document's words by other means than the package does: a log is a value that is made anew by each call, its entries are in a map, and what is searched for is sought index by index.

const top = 1 << 40 // the greatest Index and Term

type plain struct {
	base, term         int
	entries            map[int]api.Entry
	committed, applied int
}

func plainNew(base, term int) (plain, api.Errno) {
	if base < 0 || base > top || term < 0 || term > top {
		return plain{}, api.ErrArg
	}
	return plain{base: base, term: term, committed: base, applied: base}, api.OK
}

func (p plain) last() int {
	last := p.base
	for i := range p.entries {
		last = max(last, i)
	}
	return last
}

func (p plain) termAt(i int) (int, bool) {
	if i == p.base {
		return p.term, true
	}
	e, ok := p.entries[i]
	return e.Term, ok
}

func (p plain) get(from, most int) []api.Entry {
	var l []api.Entry
	for i := from; len(l) < most; i++ {
		e, ok := p.entries[i]
		if !ok {
			break
		}
		l = append(l, e)
	}
	return l
}

func plainValid(l []api.Entry) bool {
	for _, e := range l {
		if e.Index < 1 || e.Index > top || e.Term < 0 || e.Term > top || e.Kind < 0 || e.Kind > 7 || len(e.Data) > 4096 {
			return false
		}
	}
	return true
}

// plainFollow is asked of valid entries only, whose Index may be made less by 1.
func plainFollow(l []api.Entry, i, term int) bool {
	for n, e := range l {
		if n == 0 && e.Index-1 != i || n > 0 && e.Index-1 != l[n-1].Index {
			return false
		}
		if e.Term < term || n > 0 && e.Term < l[n-1].Term {
			return false
		}
	}
	return true
}

// from is p whose entries from the first of l on are l.
func (p plain) from(l []api.Entry) plain {
	kept := map[int]api.Entry{}
	for i, e := range p.entries {
		if len(l) == 0 || i < l[0].Index {
			kept[i] = e
		}
	}
	for _, e := range l {
		e.Data = slices.Clone(e.Data)
		kept[e.Index] = e
	}
	p.entries = kept
	return p
}

func (p plain) add(l []api.Entry) (plain, api.Errno) {
	if !plainValid(l) {
		return p, api.ErrArg
	}
	if term, _ := p.termAt(p.last()); !plainFollow(l, p.last(), term) {
		return p, api.ErrOrder
	}
	return p.from(l), api.OK
}

func (p plain) merge(i, term int, l []api.Entry) (plain, int, api.Errno) {
	if !plainValid(l) || !plainFollow(l, i, term) {
		return p, 0, api.ErrArg
	}
	if i < p.base {
		var rest []api.Entry
		for _, e := range l {
			if e.Index > p.base {
				rest = append(rest, e)
			}
		}
		if len(rest) == 0 {
			return p, 0, api.OK
		}
		if rest[0].Term < p.term {
			return p, 0, api.ErrOrder
		}
		i, term, l = p.base, p.term, rest
	}
	if there, ok := p.termAt(i); !ok || there != term {
		return p, 0, api.ErrOrder
	}
	for n, e := range l {
		there, ok := p.entries[e.Index]
		if ok && there.Term == e.Term {
			continue
		}
		if ok && e.Index <= p.committed {
			return p, 0, api.ErrKept
		}
		return p.from(l[n:]), e.Index, api.OK
	}
	return p, 0, api.OK
}

func (p plain) commit(i int) (plain, api.Errno) {
	if i < p.committed || i > p.last() {
		return p, api.ErrOrder
	}
	p.committed = i
	return p, api.OK
}

func (p plain) apply(i int) (plain, api.Errno) {
	if i < p.applied || i > p.committed {
		return p, api.ErrOrder
	}
	p.applied = i
	return p, api.OK
}

func (p plain) compact(i int) (plain, api.Errno) {
	if i < p.base || i > p.applied {
		return p, api.ErrOrder
	}
	p.term, _ = p.termAt(i)
	p.base = i
	p.entries = maps.Clone(p.entries)
	maps.DeleteFunc(p.entries, func(n int, _ api.Entry) bool { return n <= i })
	return p, api.OK
}

func (p plain) reset(i, term int) (plain, api.Errno) {
	q, e := plainNew(i, term)
	if e != api.OK {
		return p, e
	}
	if i < p.committed {
		return p, api.ErrOrder
	}
	return q, api.OK
}

func (p plain) back(i, term int) int {
	for n := p.last(); n > p.base; n-- {
		if there, _ := p.termAt(n); n <= i && there <= term {
			return n
		}
	}
	return p.base
}

func (p plain) newer(i, term int) bool {
	last, _ := p.termAt(p.last())
	if term == last {
		return i >= p.last()
	}
	return term > last
}

func (p plain) String() string {
	var terms []string
	for i := p.base; i <= p.last(); i++ {
		term, _ := p.termAt(i)
		terms = append(terms, fmt.Sprint(term))
	}
	return fmt.Sprintf("base %d, terms %s, committed %d, applied %d", p.base, strings.Join(terms, " "), p.committed, p.applied)
}

// log is a Log that is as p is, made by the calls that are tested.
func (p plain) log() *Log {
	g, _ := New(p.base, p.term)
	g.Add(p.get(p.base+1, len(p.entries)))
	g.Commit(p.committed)
	g.Apply(p.applied)
	return g
}

func sameEntries(a, b []api.Entry) bool {
	return slices.EqualFunc(a, b, func(x, y api.Entry) bool {
		return x.Index == y.Index && x.Term == y.Term && x.Kind == y.Kind && bytes.Equal(x.Data, y.Data)
	})
}

// unlike says in what g is not as p is, or nothing.
func (p plain) unlike(g *Log) string {
	if g.First() != p.base+1 || g.Last() != p.last() {
		return fmt.Sprintf("the log is from %d to %d, want from %d to %d", g.First(), g.Last(), p.base+1, p.last())
	}
	if g.Committed() != p.committed || g.Applied() != p.applied {
		return fmt.Sprintf("committed %d, applied %d, want %d and %d", g.Committed(), g.Applied(), p.committed, p.applied)
	}
	for i := p.base - 2; i <= p.last()+2; i++ {
		got, is := g.Term(i)
		if asked, ok := p.termAt(i); got != asked || is != ok {
			return fmt.Sprintf("Term(%d) is %d, %v, want %d, %v", i, got, is, asked, ok)
		}
	}
	if got, asked := g.Get(p.base+1, top), p.get(p.base+1, top); !sameEntries(got, asked) {
		return fmt.Sprintf("the entries are %v, want %v", got, asked)
	}
	return ""
}
