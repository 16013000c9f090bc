package wal

import (
	"math"
	"testing"

	"jetway/api"
	"jetway/disk"
)

// call is a method of a Wal with its arguments, and of the plain one.
type call struct {
	what  string
	wal   func(w *Wal) api.Errno
	plain func(p *plainWal) ([]op, api.Errno)
}

func appendCall(l []api.Entry) call {
	return call{"Append", func(w *Wal) api.Errno { return w.Append(l) }, func(p *plainWal) ([]op, api.Errno) { return p.append(l) }}
}

func cutCall(from int) call {
	return call{"Cut", func(w *Wal) api.Errno { return w.Cut(from) }, func(p *plainWal) ([]op, api.Errno) { return p.cut(from) }}
}

func resetCall(next int) call {
	return call{"Reset", func(w *Wal) api.Errno { return w.Reset(next) }, func(p *plainWal) ([]op, api.Errno) { return p.reset(next) }}
}

func syncCall() call {
	return call{"Sync", (*Wal).Sync, (*plainWal).sync}
}

func dropCall(before int) call {
	return call{"Drop", func(w *Wal) api.Errno { return w.Drop(before) }, func(p *plainWal) ([]op, api.Errno) { return p.drop(before) }}
}

const faultLimit = 60

// prepared is a disk with the entries 4 to 20, of which some are not synced, in several segments. It is the same each time.
func prepared(t *testing.T) (*disk.Disk, *Wal) {
	t.Helper()
	d := newDisk(t)
	w := mustOpen(t, d, faultLimit)
	must(t, w.Reset(4))
	must(t, w.Append(some(4, 18)))
	must(t, w.Sync())
	must(t, w.Append(some(19, 20)))
	return d, w
}

// faultCall is a call behind prepared, and how many operations it needs at least.
type faultCall struct {
	least int
	call
}

func faultCalls() []faultCall {
	return []faultCall{
		{1, appendCall(some(21, 21))}, {4, appendCall(some(21, 22))}, {20, appendCall(some(21, 40))},
		{1, cutCall(4)}, {1, cutCall(15)}, {1, cutCall(20)},
		{1, resetCall(1)}, {1, resetCall(21)}, {1, resetCall(top)},
		{1, syncCall()},
		{1, dropCall(10)}, {4, dropCall(20)}, {5, dropCall(21)},
	}
}

// opsOf are the operations that a call is to need behind prepared.
func opsOf(t *testing.T, c call) []op {
	t.Helper()
	d, _ := prepared(t)
	p, ops := plainOpen(filesOf(t, d), faultLimit)
	if len(ops) != 0 {
		t.Fatal("the prepared disk must be repaired")
	}
	ops, e := c.plain(p)
	must(t, e)
	return ops
}

// sameDisk checks that both disks are the same, and also what is synced of them; they must not be used any more.
func sameDisk(t *testing.T, what string, a, b *disk.Disk) {
	t.Helper()
	if !a.Off() && !b.Off() {
		wantFiles(t, what, a, filesOf(t, b))
	} else if a.Off() != b.Off() {
		t.Fatalf("%s: Off is %v, want %v", what, a.Off(), b.Off())
	}
	a.Crash(nil)
	b.Crash(nil)
	wantFiles(t, what+", a crash", a, filesOf(t, b))
}

// P6.2 and P6.3: which operations are done, in which order, and what an error of one of them does.

func TestEachOperationOfEachMethodFails(t *testing.T) {
	for _, c := range faultCalls() {
		ops := opsOf(t, c.call)
		if len(ops) < c.least {
			t.Fatalf("%s: only %d operations", c.what, len(ops))
		}
		for n := range len(ops) + 1 {
			for _, fault := range []api.Errno{api.ErrIo, api.ErrOff} {
				d, w := prepared(t)
				twin, _ := prepared(t)
				schedule(t, d, fault, n)
				e := c.wal(w)
				for _, o := range ops[:n] {
					must(t, o.do(twin))
				}
				if n == len(ops) {
					want(t, c.what+" ahead of the fault", e, api.OK)
					sameDisk(t, c.what+" ahead of the fault", d, twin)
					continue
				}
				want(t, c.what, e, fault)
				wantBroken(t, c.what, w)
				if fault == api.ErrOff {
					must(t, twin.Arm(0))
					want(t, "the power", twin.Sync("a"), api.ErrOff)
				}
				sameDisk(t, c.what, d, twin)
				// A crash brings the power, but not the Wal.
				wantBroken(t, c.what+" behind a crash", w)
			}
		}
	}
}

func schedule(t *testing.T, d *disk.Disk, fault api.Errno, n int) {
	t.Helper()
	if fault == api.ErrIo {
		must(t, d.Fail(n))
	} else {
		must(t, d.Arm(n))
	}
}

// A broken Wal does not touch the disk, and another one on the same disk works.
func TestAnotherWalBehindABrokenOne(t *testing.T) {
	for _, c := range faultCalls() {
		for n := range opsOf(t, c.call) {
			for _, fault := range []api.Errno{api.ErrIo, api.ErrOff} {
				d, w := prepared(t)
				schedule(t, d, fault, n)
				want(t, c.what, c.wal(w), fault)
				if fault == api.ErrOff {
					d.Crash([]int{1, 20, 30, 40, 50, 60, 70})
				}
				before := filesOf(t, d)
				wantBroken(t, c.what, w)
				wantFiles(t, c.what, d, before)
				l, _, _ := recoverable(before)
				again := mustOpen(t, d, faultLimit)
				wantSame(t, c.what+", opened again", again, d, l.base, l.entries)
				next := again.Last() + 1
				if next > top {
					continue
				}
				must(t, again.Append(some(next, next)))
				must(t, again.Sync())
				d.Crash(nil)
				wantLog(t, c.what+", used again", mustOpen(t, d, faultLimit), l.base, append(l.entries, some(next, next)...))
				wantBroken(t, c.what+", long since", w)
			}
		}
	}
}

func TestFullDisk(t *testing.T) {
	for free := range 400 {
		d, w := prepared(t)
		fill := room - d.Size() - free
		must(t, d.Append("other", make([]byte, fill)))
		must(t, d.Sync("other"))
		p, _ := plainOpen(filesOf(t, d), faultLimit)
		ops, e := p.append(some(21, 30))
		must(t, e)
		need := 0
		for _, o := range ops {
			if o.what == "append" {
				need += len(o.text)
			}
		}
		e = w.Append(some(21, 30))
		if need <= free {
			want(t, "room enough", e, api.OK)
			wantSame(t, "room enough", w, d, 3, some(4, 30))
			continue
		}
		want(t, "too little room", e, api.ErrFull)
		wantBroken(t, "too little room", w)
		l, _, _ := recoverable(filesOf(t, d))
		wantLog(t, "too little room", mustOpen(t, d, faultLimit), l.base, l.entries)
	}
}

func TestFullDiskForCutAndReset(t *testing.T) {
	for _, c := range []call{cutCall(9), resetCall(9)} {
		d, w := prepared(t)
		must(t, d.Append("other", make([]byte, room-d.Size()-5)))
		want(t, c.what, c.wal(w), api.ErrFull)
		wantBroken(t, c.what, w)
		wantLog(t, c.what, mustOpen(t, d, faultLimit), 3, some(4, 20))
	}
}

// A segment that is gone from the disk is an error of the disk too.
func TestMissingFile(t *testing.T) {
	for _, c := range []call{syncCall(), appendCall(some(21, 22)), dropCall(21)} {
		d, w := prepared(t)
		for _, name := range d.Names() {
			must(t, d.Unlink(name))
		}
		want(t, c.what, c.wal(w), api.ErrNone)
		wantBroken(t, c.what, w)
	}
}

// Where nothing is to be done to the disk, no fault of it is met, even without power.
func TestCallsWithoutAnOperation(t *testing.T) {
	for _, fault := range []api.Errno{api.ErrIo, api.ErrOff, api.OK} {
		d, w := prepared(t)
		if fault == api.OK {
			must(t, d.Arm(0))
			want(t, "the power", d.Sync("a"), api.ErrOff)
		} else {
			schedule(t, d, fault, 0)
		}
		want(t, "Append of nothing", w.Append(nil), api.OK)
		want(t, "Append of an entry that is not valid", w.Append([]api.Entry{{}}), api.ErrArg)
		want(t, "Append out of order", w.Append(some(1, 1)), api.ErrOrder)
		want(t, "Cut behind the log", w.Cut(21), api.OK)
		want(t, "Cut at the base", w.Cut(3), api.ErrOrder)
		want(t, "Cut above the log", w.Cut(22), api.ErrOrder)
		want(t, "Reset to 0", w.Reset(0), api.ErrArg)
		want(t, "Reset too high", w.Reset(top+1), api.ErrArg)
		want(t, "Drop of nothing", w.Drop(1), api.OK)
		want(t, "Drop of nothing", w.Drop(math.MinInt), api.OK)
		want(t, "Drop above the log", w.Drop(22), api.ErrOrder)
		wantLog(t, "nothing was done", w, 3, some(4, 20))
		asked := fault
		if fault == api.OK {
			asked = api.ErrOff
		}
		want(t, "Sync", w.Sync(), asked)
		wantBroken(t, "Sync", w)
	}
}

// P6.1: which operations Open does, in which order, and that it ends at the first error.

// damaged are disks that Open has to repair, and one that it has not.
func damaged() map[string]map[string]string {
	torn := three()
	torn[seg(2)] += "x"
	left := three()
	left["wal.new"] = "left"
	all := three()
	all["wal.new"] = head(1, 1)
	all[seg(2)] = all[seg(2)][:20]
	all[seg(4)] = ""
	all[seg(9)] = head(9, 1)
	return map[string]map[string]string{
		"whole":          three(),
		"empty":          {},
		"torn":           torn,
		"left":           left,
		"all":            all,
		"no HEAD":        {seg(3): "", seg(4): head(4, 2), seg(7): "x", "hard": "a"},
		"left and empty": {"wal.new": "", seg(8): "y"},
		"left alone":     {"wal.new": "z"},
	}
}

// loose has these files; of each, all but the last three bytes are synced.
func loose(t *testing.T, files map[string]string) *disk.Disk {
	t.Helper()
	d := newDisk(t)
	for name, b := range files {
		at := max(0, len(b)-3)
		must(t, d.Append(name, []byte(b[:at])))
		must(t, d.Sync(name))
		must(t, d.Append(name, []byte(b[at:])))
	}
	return d
}

func TestEachOperationOfOpenFails(t *testing.T) {
	most := 0
	for what, files := range damaged() {
		p, ops := plainOpen(files, 100)
		most = max(most, len(ops))
		for n := range len(ops) + 1 {
			for _, fault := range []api.Errno{api.ErrIo, api.ErrOff} {
				d, twin := loose(t, files), loose(t, files)
				schedule(t, d, fault, n)
				w, e := Open(d, 100)
				for _, o := range ops[:n] {
					must(t, o.do(twin))
				}
				if n == len(ops) {
					want(t, what, e, api.OK)
					wantLog(t, what, w, p.log.base, p.log.entries)
					sameDisk(t, what, d, twin)
					continue
				}
				if w != nil || e != fault {
					t.Fatalf("%s: %v, error %d; want none, error %d", what, w, e, fault)
				}
				if fault == api.ErrOff {
					must(t, twin.Arm(0))
					want(t, "the power", twin.Sync("a"), api.ErrOff)
				}
				sameDisk(t, what, d, twin)
			}
		}
	}
	if most < 7 {
		t.Errorf("no disk needs more than %d operations", most)
	}
}
