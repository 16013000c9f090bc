package wal

import (
	"strconv"
	"strings"

	"jetway/api"
	"jetway/disk"
	"jetway/record"
)

const (
	segmentPrefix = "wal-"
	segmentDigits = 8
	mostNumber    = 99999999 // of a segment
)

// segment is a file of the log that has its HEAD.
type segment struct {
	number int
	next   int // the next Index of its HEAD
	size   int // how many of its bytes are part of the recoverable content
}

func (s segment) name() string { return nameOf(s.number) }

func nameOf(number int) string {
	digits := strconv.Itoa(number)
	return segmentPrefix + strings.Repeat("0", segmentDigits-len(digits)) + digits
}

// numberOf is the number of the segment of that name, if it is the name of one.
func numberOf(name string) (int, bool) {
	digits, ok := strings.CutPrefix(name, segmentPrefix)
	if !ok || len(digits) != segmentDigits {
		return 0, false
	}
	// Read without a sign, because "-" may stand in a name.
	n, err := strconv.ParseUint(digits, 10, 64)
	return int(n), err == nil && n > 0
}

// segmentNumbers are the numbers of all segments that are on a disk, rising, because their names have equal lengths.
func segmentNumbers(d *disk.Disk) []int {
	var out []int
	for _, name := range d.Names() {
		if n, ok := numberOf(name); ok {
			out = append(out, n)
		}
	}
	return out
}

// content is the recoverable content of a disk: the log, and the segments whose HEADs are part of it.
type content struct {
	log      log
	segments []segment
}

func (c *content) lastSegment() *segment { return &c.segments[len(c.segments)-1] }

// scan is the recoverable content of a disk.
func scan(d *disk.Disk) (content, api.Errno) {
	var c content
segments:
	for _, number := range segmentNumbers(d) {
		b, e := d.Read(nameOf(number))
		if e != api.OK {
			return content{}, e
		}
		records, used := record.Scan(b)
		for i, r := range records {
			if !c.accept(number, i == 0, r) {
				break segments
			}
		}
		if len(records) == 0 || used < len(b) {
			break segments
		}
	}
	return c, api.OK
}

// accept modifies the log by the record of a segment, and tells whether the record may stand there; if not, nothing changes.
func (c *content) accept(number int, first bool, b []byte) bool {
	r, ok := decode(b)
	if !ok || first != (r.kind == kindHead) {
		return false
	}
	switch r.kind {
	case kindHead:
		if r.number != number || !c.follows(r) {
			return false
		}
		c.begin(r)
	case kindEntry:
		if r.entry.Index != c.log.last()+1 {
			return false
		}
		c.log.add(r.entry)
	case kindCut:
		c.log.cut(r.index)
	case kindReset:
		c.log.restart(r.index)
	}
	c.lastSegment().size += recordHead + len(b)
	return true
}

// follows tells whether the segment with this HEAD may stand behind those that are there.
func (c *content) follows(head change) bool {
	if len(c.segments) == 0 {
		return true
	}
	return head.number == c.lastSegment().number+1 && head.index == c.log.last()+1
}

func (c *content) begin(head change) {
	if len(c.segments) == 0 {
		c.log.restart(head.index)
	}
	c.segments = append(c.segments, segment{number: head.number, next: head.index})
}
