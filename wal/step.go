package wal

import "jetway/api"

// step is a part of what a method does that may fail.
type step func() api.Errno

// run takes one step after the other, up to the first error.
func run(steps ...step) api.Errno {
	for _, s := range steps {
		if e := s(); e != api.OK {
			return e
		}
	}
	return api.OK
}

// writing is the step that puts a record behind the segment that is the last one when it is taken.
func (w *Wal) writing(b []byte) step {
	return func() api.Errno {
		last := w.lastSegment()
		e := w.disk.Append(last.name(), b)
		if e == api.OK {
			last.size += len(b)
		}
		return e
	}
}

// syncing is the step that makes the segment last that is the last one when it is taken.
func (w *Wal) syncing() step {
	return func() api.Errno { return w.disk.Sync(w.lastSegment().name()) }
}

// creating is the step that puts a segment of that number, with its HEAD, behind the others.
func (w *Wal) creating(number int) step {
	return func() api.Errno {
		s := segment{number: number, next: w.log.last() + 1}
		w.segments = append(w.segments, s)
		return run(w.writing(headRecord(s.number, s.next)), w.syncing())
	}
}
