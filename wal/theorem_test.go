package wal

import (
	"math/rand"
	"slices"
	"testing"

	"jetway/api"
	"jetway/disk"
)

// P6.5

// history is the logs that there were, one behind each modification that was requested, and which of them must be there, or one behind it.
type history struct {
	logs   []plainLog
	synced int // the place in logs
	before int // the greatest that was asked of Drop since the last crash; 0: none
}

func (h *history) now() plainLog { return h.logs[len(h.logs)-1] }

func (h *history) add(l plainLog) { h.logs = append(h.logs, l) }

// request asks w for something, and adds the logs that there are to be behind each modification.
func (h *history) request(s script, w *Wal) api.Errno {
	l := h.now()
	switch s.Intn(10) {
	case 0, 1, 2, 3:
		var entries []api.Entry
		for i := range s.Intn(5) {
			e := s.entry(l.last() + 1 + i)
			entries = append(entries, e)
			h.add(h.now().with(e))
		}
		return w.Append(entries)
	case 4:
		from := l.base + 1 + s.Intn(len(l.entries)+1)
		h.add(l.without(from))
		return w.Cut(from)
	case 5:
		if s.Intn(3) > 0 {
			return api.OK
		}
		next := 1 + s.Intn(40)
		h.add(plainLog{base: next - 1})
		return w.Reset(next)
	case 6:
		before := l.base + 1 + s.Intn(len(l.entries)+1)
		h.before = max(h.before, before)
		e := w.Drop(before)
		if e == api.OK {
			h.dropped(w)
		}
		return e
	}
	e := w.Sync()
	if e == api.OK {
		h.synced = len(h.logs) - 1
	}
	return e
}

// dropped takes the new base of the log over, with which it goes on.
func (h *history) dropped(w *Wal) {
	l := h.now()
	if w.First()-1 > l.base {
		h.logs[len(h.logs)-1] = l.from(w.First())
	}
}

// from is the log without the entries below one.
func (l plainLog) from(index int) plainLog {
	at := slices.IndexFunc(l.entries, func(e api.Entry) bool { return e.Index >= index })
	if at < 0 {
		at = len(l.entries)
	}
	return plainLog{l.base + at, l.entries[at:]}
}

// fits tells whether the log w is l, but for entries at its beginning that a Drop may have removed: none of those from before on, unless l doesn't have the others either.
func fits(w *Wal, l plainLog, before int) bool {
	base := w.First() - 1
	if w.Last() != l.last() || base < l.base || base > max(l.base, before-1) {
		return false
	}
	return sameEntries(w.Get(base+1, 1000), l.from(base+1).entries)
}

// recovered tells whether w is one of the logs that must be or may be there.
func (h *history) recovered(w *Wal) bool {
	return slices.ContainsFunc(h.logs[h.synced:], func(l plainLog) bool { return fits(w, l, h.before) })
}

func wantRecovered(t *testing.T, seed int64, d *disk.Disk, limit int, h *history) *Wal {
	t.Helper()
	w, e := Open(d, limit)
	if e != api.OK {
		t.Fatalf("seed %d: Open: error %d", seed, e)
	}
	if !h.recovered(w) {
		t.Fatalf("seed %d: recovered from %d to %d, which is none of the logs from %v on", seed, w.First(), w.Last(), h.logs[h.synced:])
	}
	return w
}

func TestEverythingSyncedIsRecovered(t *testing.T) {
	longer := 0
	for seed := range int64(1000) {
		s := script{rand.New(rand.NewSource(seed))}
		d := newDisk(t)
		limit := 32 + s.Intn(150)
		w := mustOpen(t, d, limit)
		h := &history{logs: []plainLog{{}}}
		for range 8 {
			must(t, d.Arm(s.Intn(40)))
			for range 30 {
				if e := h.request(s, w); e != api.OK {
					want(t, "a request", e, api.ErrOff)
					break
				}
			}
			d.Crash(s.keep())
			w = wantRecovered(t, seed, d, limit, h)
			if w.Last() != h.logs[h.synced].last() {
				longer++
			}
			h = &history{logs: []plainLog{{w.First() - 1, w.Get(w.First(), 1000)}}}
		}
	}
	if longer < 500 {
		t.Errorf("only %d times something was recovered that was not synced", longer)
	}
}

// begun is a history that a script has begun on a new disk, whose power goes at its modification at.
func begun(t *testing.T, s script, limit, requests, at int) (*disk.Disk, *history) {
	t.Helper()
	d := newDisk(t)
	w := mustOpen(t, d, limit)
	h := &history{logs: []plainLog{{}}}
	must(t, d.Arm(at))
	for range requests {
		if e := h.request(s, w); e != api.OK {
			want(t, "a request", e, api.ErrOff)
			break
		}
	}
	return d, h
}

// The power fails at each modification of a script, and then at each one of the repair.
func TestPowerFailsAtEachModification(t *testing.T) {
	for seed := range int64(20) {
		for at, lasts := 0, false; !lasts; at++ {
			for again, repaired := 0, false; !repaired; again++ {
				s := script{rand.New(rand.NewSource(seed))}
				d, h := begun(t, s, 60, 25, at)
				lasts = !d.Off()
				d.Crash(s.keep())
				must(t, d.Arm(again))
				_, e := Open(d, 60)
				repaired = e == api.OK
				d.Crash(s.keep())
				wantRecovered(t, seed, d, 60, h)
			}
		}
	}
}

// The same script ends in each crash, from one that keeps nothing of the last segment to one that keeps all; each byte more recovers as much, or more.
func TestCrashesThatKeepMore(t *testing.T) {
	for seed := range int64(100) {
		place := 0
		for keep := range 300 {
			d, h := begun(t, script{rand.New(rand.NewSource(seed))}, 200, 12, 1000)
			all := make([]int, len(d.Names()))
			all[len(all)-1] = keep
			d.Crash(all)
			w := wantRecovered(t, seed, d, 200, h)
			more := slices.IndexFunc(h.logs[place:], func(l plainLog) bool { return fits(w, l, h.before) })
			if more < 0 {
				t.Fatalf("seed %d: %d bytes that are kept recover less than a byte less", seed, keep)
			}
			place += more
		}
	}
}
