package wal

import (
	"slices"

	"jetway/api"
	"jetway/disk"
)

// freshName is where the repaired bytes of a segment stand until they are all synced.
const freshName = "wal.new"

// Open is what there is on a disk; segments end behind so many bytes.
func Open(d *disk.Disk, limit int) (*Wal, api.Errno) {
	if d == nil || limit < leastLimit || limit > mostLimit {
		return nil, api.ErrArg
	}
	if d.Off() {
		return nil, api.ErrOff
	}
	w := &Wal{disk: d, limit: limit}
	if e := run(w.removeFresh, w.load, w.shorten, w.removeRest, w.start); e != api.OK {
		return nil, e
	}
	return w, api.OK
}

// removeFresh unlinks what a repair that was broken off has left.
func (w *Wal) removeFresh() api.Errno {
	if !slices.Contains(w.disk.Names(), freshName) {
		return api.OK
	}
	return w.disk.Unlink(freshName)
}

func (w *Wal) load() (e api.Errno) {
	w.content, e = scan(w.disk)
	return e
}

// shorten takes away what stands in the last segment behind the recoverable content.
func (w *Wal) shorten() api.Errno {
	if len(w.segments) == 0 {
		return api.OK
	}
	last := *w.lastSegment()
	b, e := w.disk.Read(last.name())
	if e != api.OK || len(b) == last.size {
		return e
	}
	return run(
		func() api.Errno { return w.disk.Append(freshName, b[:last.size]) },
		func() api.Errno { return w.disk.Sync(freshName) },
		func() api.Errno { return w.disk.Rename(freshName, last.name()) },
	)
}

// removeRest unlinks the segments whose HEADs are not recoverable. They are behind all others, because the content ends at the first of them.
func (w *Wal) removeRest() api.Errno {
	var steps []step
	for _, number := range segmentNumbers(w.disk)[len(w.segments):] {
		steps = append(steps, func() api.Errno { return w.disk.Unlink(nameOf(number)) })
	}
	return run(steps...)
}

// start creates the first segment, if there is none.
func (w *Wal) start() api.Errno {
	if len(w.segments) > 0 {
		return api.OK
	}
	return run(w.creating(1))
}
