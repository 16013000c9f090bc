package wal

import (
	"bytes"
	"slices"

	"jetway/api"
)

const mostKind = 7 // of an entry

// log is a base and the entries behind it.
type log struct {
	base    int
	entries []api.Entry
}

func valid(e api.Entry) bool {
	return 1 <= e.Index && e.Index <= api.MaxIndex &&
		0 <= e.Term && e.Term <= api.MaxIndex &&
		0 <= e.Kind && e.Kind <= mostKind &&
		len(e.Data) <= api.MaxData
}

func (l *log) last() int { return l.base + len(l.entries) }

// get is a copy of at most most entries from one on that is there.
func (l *log) get(from, most int) []api.Entry {
	found := l.entries[from-l.base-1:]
	found = slices.Clone(found[:min(most, len(found))])
	for i := range found {
		found[i].Data = bytes.Clone(found[i].Data)
	}
	return found
}

// add puts a copy of an entry behind, cut takes those from one on away, restart all.
func (l *log) add(e api.Entry) {
	e.Data = bytes.Clone(e.Data)
	l.entries = append(l.entries, e)
}

func (l *log) cut(from int) {
	if from <= l.base {
		l.restart(from)
	} else if from <= l.last() {
		// Deleted, and not sliced off, so that what is cut takes no memory any more.
		l.entries = slices.Delete(l.entries, from-l.base-1, len(l.entries))
	}
}

func (l *log) restart(next int) { *l = log{base: next - 1} }
