package wal

import (
	"jetway/api"
	"jetway/field"
	"jetway/record"
)

// The kinds of records.
const (
	kindHead = iota
	kindEntry
	kindCut
	kindReset
)

const (
	recordHead = 8                // bytes of a record ahead of its content
	mostNext   = api.MaxIndex + 1 // of the Indices in HEAD, CUT and RESET
)

// change is what a record does to a log.
type change struct {
	kind   int
	number int       // of the segment, in a HEAD
	index  int       // in a HEAD, a CUT and a RESET
	entry  api.Entry // of an ENTRY
}

func headRecord(number, next int) []byte { return put(numbers(kindHead, number, next)) }

func entryRecord(e api.Entry) []byte {
	return put(append(numbers(kindEntry, e.Index, e.Term, e.Kind), field.Text(e.Data)...))
}

func cutRecord(from int) []byte { return put(numbers(kindCut, from)) }

func resetRecord(next int) []byte { return put(numbers(kindReset, next)) }

func numbers(l ...int) []byte {
	var b []byte
	for _, n := range l {
		b = append(b, field.Number(uint64(n))...)
	}
	return b
}

// put is the record with the content b. No content here is too long for one: none is much longer than the longest Data.
func put(b []byte) []byte {
	r, _ := record.Put(b)
	return r
}

// decode is what the record with the content b does, if b has the form of one.
func decode(b []byte) (change, bool) {
	r := field.New(b)
	c := change{kind: readInt(r, kindHead, kindReset)}
	switch c.kind {
	case kindHead:
		c.number = readInt(r, 1, mostNumber)
		c.index = readInt(r, 1, mostNext)
	case kindEntry:
		c.entry = readEntry(r)
	case kindCut, kindReset:
		c.index = readInt(r, 1, mostNext)
	}
	if !r.Whole() {
		return change{}, false
	}
	return c, true
}

func readEntry(r *field.Reader) api.Entry {
	var e api.Entry
	e.Index = readInt(r, 1, api.MaxIndex)
	e.Term = readInt(r, 0, api.MaxIndex)
	e.Kind = readInt(r, 0, mostKind)
	e.Data = r.Text(api.MaxData)
	return e
}

// readInt reads what field.Number has written: a number that is not below 0 is encoded by Int in the same way, and Reader.Int holds it against a least one too.
func readInt(r *field.Reader, least, most int64) int { return int(r.Int(least, most)) }
