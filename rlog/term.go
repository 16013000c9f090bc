package rlog

import (
	"slices"
	"sort"

	"jetway/api"
)

// termOf is how a log is asked for the term of an index, and whether it has one there.
type termOf func(g *Log, i int) (int, bool)

// has tells whether the log has this term at i.
func (g *Log) has(i, term int, of termOf) bool {
	there, ok := of(g, i)
	return ok && there == term
}

// missing is l from the first entry on that the log does not have. Two logs with the same Term at an Index have the same entry there, so that nothing else of it is asked.
func (g *Log) missing(l []api.Entry, of termOf) []api.Entry {
	at := slices.IndexFunc(l, func(e api.Entry) bool { return !g.has(e.Index, e.Term, of) })
	if at < 0 {
		return nil
	}
	return l[at:]
}

// lastUpTo is the greatest index from the base to i whose term is at most term, or the base. It is searched by halves, because terms never decrease along a log.
func (g *Log) lastUpTo(i, term int, of termOf) int {
	// Held against the base ahead of the difference, because i may be far below it.
	many := max(i, g.base) - g.base
	return g.base + sort.Search(many, func(n int) bool {
		there, _ := of(g, g.First()+n)
		return there > term
	})
}
