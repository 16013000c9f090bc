package wal

import (
	"bytes"
	"maps"
	"math"
	"slices"
	"testing"

	"jetway/api"
	"jetway/disk"
)

const room = 1 << 20

func newDisk(t *testing.T) *disk.Disk {
	t.Helper()
	d, e := disk.New(room)
	must(t, e)
	return d
}

// diskOf has these files, all synced.
func diskOf(t *testing.T, files map[string]string) *disk.Disk {
	t.Helper()
	d := newDisk(t)
	for name, b := range files {
		must(t, d.Append(name, []byte(b)))
		must(t, d.Sync(name))
	}
	return d
}

func must(t *testing.T, e api.Errno) {
	t.Helper()
	if e != api.OK {
		t.Fatalf("error %d", e)
	}
}

func want(t *testing.T, what string, got, asked api.Errno) {
	t.Helper()
	if got != asked {
		t.Fatalf("%s: error %d, want %d", what, got, asked)
	}
}

func mustOpen(t *testing.T, d *disk.Disk, limit int) *Wal {
	t.Helper()
	w, e := Open(d, limit)
	if e != api.OK || w == nil {
		t.Fatalf("Open: %v, error %d", w, e)
	}
	return w
}

// opened is a Wal on a new disk.
func opened(t *testing.T, limit int) (*Wal, *disk.Disk) {
	t.Helper()
	d := newDisk(t)
	return mustOpen(t, d, limit), d
}

// some are entries from one Index to another one, of different Terms, Kinds and Data.
func some(from, to int) []api.Entry {
	var l []api.Entry
	for i := from; i <= to; i++ {
		l = append(l, api.Entry{Index: i, Term: i / 3, Kind: i % 8, Data: bytes.Repeat([]byte{byte(i)}, i%5)})
	}
	return l
}

func written(l []api.Entry) string {
	s := ""
	for _, e := range l {
		s += entry(e)
	}
	return s
}

func filesOf(t *testing.T, d *disk.Disk) map[string]string {
	t.Helper()
	out := map[string]string{}
	for _, name := range d.Names() {
		b, e := d.Read(name)
		must(t, e)
		out[name] = string(b)
	}
	return out
}

func wantFiles(t *testing.T, what string, d *disk.Disk, asked map[string]string) {
	t.Helper()
	if got := filesOf(t, d); !maps.Equal(got, asked) {
		t.Fatalf("%s: the disk has %q, want %q", what, got, asked)
	}
}

func sameEntries(a, b []api.Entry) bool {
	return slices.EqualFunc(a, b, func(x, y api.Entry) bool {
		return x.Index == y.Index && x.Term == y.Term && x.Kind == y.Kind && bytes.Equal(x.Data, y.Data)
	})
}

func wantLog(t *testing.T, what string, w *Wal, base int, l []api.Entry) {
	t.Helper()
	if w.First() != base+1 || w.Last() != base+len(l) {
		t.Fatalf("%s: the log is from %d to %d, want from %d to %d", what, w.First(), w.Last(), base+1, base+len(l))
	}
	if got := w.Get(base+1, math.MaxInt); !sameEntries(got, l) {
		t.Fatalf("%s: the entries are %v, want %v", what, got, l)
	}
}

// wantSame checks the log, and the one that is on the disk.
func wantSame(t *testing.T, what string, w *Wal, d *disk.Disk, base int, l []api.Entry) {
	t.Helper()
	wantLog(t, what, w, base, l)
	before := filesOf(t, d)
	wantLog(t, what+", opened again", mustOpen(t, d, w.limit), base, l)
	wantFiles(t, what+", opened again", d, before)
}

func wantBroken(t *testing.T, what string, w *Wal) {
	t.Helper()
	if w.First() != 0 || w.Last() != 0 {
		t.Fatalf("%s: First %d, Last %d; want 0", what, w.First(), w.Last())
	}
	for _, from := range []int{math.MinInt, -1, 0, 1, 2, 10, math.MaxInt} {
		for _, most := range []int{math.MinInt, -1, 0, 1, math.MaxInt} {
			if l := w.Get(from, most); len(l) != 0 {
				t.Fatalf("%s: Get(%d, %d) = %v", what, from, most, l)
			}
		}
	}
	for _, l := range [][]api.Entry{nil, some(1, 1), some(1, 9), {{Index: -1}}} {
		want(t, what+", Append", w.Append(l), api.ErrBroken)
	}
	for _, n := range []int{math.MinInt, -1, 0, 1, 2, 10, top, top + 1, math.MaxInt} {
		want(t, what+", Cut", w.Cut(n), api.ErrBroken)
		want(t, what+", Reset", w.Reset(n), api.ErrBroken)
		want(t, what+", Drop", w.Drop(n), api.ErrBroken)
	}
	want(t, what+", Sync", w.Sync(), api.ErrBroken)
}

// P6.2

func TestGet(t *testing.T) {
	w, _ := opened(t, 60)
	must(t, w.Reset(5))
	if l := w.Get(5, 1); len(l) != 0 {
		t.Errorf("Get of no entries: %v", l)
	}
	l := some(5, 14)
	must(t, w.Append(l))
	for from := -3; from <= 20; from++ {
		for _, most := range []int{math.MinInt, -7, -1, 0, 1, 2, 3, 9, 10, 11, 1000, math.MaxInt} {
			var asked []api.Entry
			for _, e := range l {
				if from >= 5 && e.Index >= from && len(asked) < most {
					asked = append(asked, e)
				}
			}
			if got := w.Get(from, most); !sameEntries(got, asked) {
				t.Errorf("Get(%d, %d) = %v, want %v", from, most, got, asked)
			}
		}
	}
	for _, from := range []int{math.MinInt, math.MinInt + 1, math.MaxInt - 1, math.MaxInt, top, -top} {
		if got := w.Get(from, math.MaxInt); len(got) != 0 {
			t.Errorf("Get(%d) = %v", from, got)
		}
	}
}

func TestNothingIsShared(t *testing.T) {
	w, d := opened(t, 1000)
	l := some(1, 9)
	must(t, w.Append(l))
	wantLog(t, "Append", w, 0, some(1, 9))
	if !sameEntries(l, some(1, 9)) {
		t.Error("Append has changed its argument")
	}
	spoil := func(l []api.Entry) {
		for i := range l {
			for at := range l[i].Data {
				l[i].Data[at] ^= 255
			}
			_ = append(l[i].Data, 77)
			l[i] = api.Entry{Index: 99}
		}
		_ = append(l, api.Entry{Index: 98})
	}
	spoil(l)
	wantSame(t, "the argument was changed", w, d, 0, some(1, 9))
	spoil(w.Get(1, 100))
	spoil(w.Get(3, 2))
	wantSame(t, "a result was changed", w, d, 0, some(1, 9))
	a, b := w.Get(1, 9), w.Get(1, 9)
	spoil(a)
	if !sameEntries(b, some(1, 9)) {
		t.Error("two results share memory")
	}
	again := mustOpen(t, d, 1000)
	spoil(again.Get(1, 9))
	wantSame(t, "a result behind Open was changed", again, d, 0, some(1, 9))
}

// P6.3, Append

func TestAppendExample(t *testing.T) {
	for keep := range len(entry(some(3, 3)[0])) + 2 {
		w, d := opened(t, 1000)
		must(t, w.Append(some(1, 2)))
		must(t, w.Sync())
		must(t, w.Append(some(3, 3)))
		d.Crash([]int{keep})
		last := 2
		if keep >= len(entry(some(3, 3)[0])) {
			last = 3
		}
		wantLog(t, "the example", mustOpen(t, d, 1000), 0, some(1, last))
	}
}

func TestAppendWrites(t *testing.T) {
	w, d := opened(t, 65536)
	text := head(1, 1)
	for i, l := range [][]api.Entry{some(1, 1), nil, some(2, 7), {}, some(8, 8)} {
		must(t, w.Append(l))
		text += written(l)
		wantFiles(t, "Append", d, map[string]string{seg(1): text})
		if i == 2 {
			wantSame(t, "Append", w, d, 0, some(1, 7))
		}
	}
	wantSame(t, "Append", w, d, 0, some(1, 8))
	// Nothing of it is synced but the HEAD.
	d.Crash(nil)
	wantFiles(t, "a crash", d, map[string]string{seg(1): head(1, 1)})
}

// edges are valid entries with a field that is the least or the greatest, or next to it.
func edges(index int) []api.Entry {
	var l []api.Entry
	for _, e := range []api.Entry{
		{}, {Term: 1}, {Term: top - 1}, {Term: top}, {Kind: 1}, {Kind: 6}, {Kind: 7},
		{Data: []byte{}}, {Data: []byte{0}}, {Data: make([]byte, 255)}, {Data: make([]byte, 256)},
		{Data: bytes.Repeat([]byte{255}, 4095)}, {Data: bytes.Repeat([]byte{7}, 4096)},
		{Term: top, Kind: 7, Data: bytes.Repeat([]byte{9}, 4096)},
	} {
		e.Index = index
		l = append(l, e)
		index++
	}
	return l
}

func TestAppendEdges(t *testing.T) {
	many := len(edges(1))
	for _, limit := range []int{32, 33, 5000, 65535, 65536} {
		for _, from := range []int{1, 2, 255, 256, 65535, 1 << 32, top - many, top - many + 1} {
			w, d := opened(t, limit)
			must(t, w.Reset(from))
			must(t, w.Append(edges(from)))
			wantSame(t, "edges", w, d, from-1, edges(from))
			if from+many-1 == top {
				want(t, "behind the greatest Index", w.Append(some(top+1, top+1)), api.ErrArg)
				wantSame(t, "at the greatest Index", w, d, from-1, edges(from))
			}
		}
	}
}

func TestAppendRefusesEntriesThatAreNotValid(t *testing.T) {
	w, d := opened(t, 100)
	must(t, w.Append(some(1, 5)))
	before := filesOf(t, d)
	for _, wrong := range []api.Entry{
		{Index: 0}, {Index: -1}, {Index: top + 1}, {Index: math.MaxInt}, {Index: math.MinInt},
		{Index: 6, Term: -1}, {Index: 6, Term: top + 1}, {Index: 6, Term: math.MaxInt}, {Index: 6, Term: math.MinInt},
		{Index: 6, Kind: -1}, {Index: 6, Kind: 8}, {Index: 6, Kind: math.MaxInt}, {Index: 6, Kind: math.MinInt},
		{Index: 6, Data: make([]byte, 4097)}, {Index: 6, Data: make([]byte, 100000)},
	} {
		want(t, "alone", w.Append([]api.Entry{wrong}), api.ErrArg)
		if wrong.Index == 6 {
			wrong.Index = 8
		}
		want(t, "behind others", w.Append(append(some(6, 7), wrong)), api.ErrArg)
		// ErrArg is named ahead of ErrOrder.
		want(t, "behind others that are out of order", w.Append(append(some(9, 12), wrong)), api.ErrArg)
		want(t, "ahead of others", w.Append(append([]api.Entry{wrong}, some(1, 3)...)), api.ErrArg)
		wantLog(t, "refused", w, 0, some(1, 5))
		wantFiles(t, "refused", d, before)
	}
	must(t, w.Append(some(6, 6)))
	wantSame(t, "behind what was refused", w, d, 0, some(1, 6))
}

func TestAppendRefusesWrongOrder(t *testing.T) {
	w, d := opened(t, 100)
	must(t, w.Append(some(1, 5)))
	before := filesOf(t, d)
	for _, wrong := range [][]api.Entry{
		some(1, 1), some(4, 4), some(5, 5), some(7, 7), some(top, top), some(5, 6), some(1, 6), some(7, 9),
		append(some(6, 7), some(7, 7)...), append(some(6, 7), some(9, 9)...), append(some(6, 6), some(6, 8)...),
		append(some(7, 7), some(6, 6)...), append(some(6, 9), some(1, 1)...),
	} {
		want(t, "the order", w.Append(wrong), api.ErrOrder)
		wantLog(t, "refused", w, 0, some(1, 5))
		wantFiles(t, "refused", d, before)
	}
	must(t, w.Append(some(6, 9)))
	wantSame(t, "behind what was refused", w, d, 0, some(1, 9))
}

// The last segment has size bytes when the next entry comes.
func TestAppendAtTheLimit(t *testing.T) {
	first, second := some(1, 3), some(4, 4)
	size := len(head(1, 1) + written(first))
	for _, c := range []struct {
		limit int
		rolls bool
	}{{size + 1, false}, {size, true}, {size - 1, true}} {
		w, d := opened(t, c.limit)
		must(t, w.Append(first))
		wantFiles(t, "ahead of it", d, map[string]string{seg(1): head(1, 1) + written(first)})
		must(t, w.Append(second))
		asked := map[string]string{seg(1): head(1, 1) + written(first) + written(second)}
		if c.rolls {
			asked = map[string]string{seg(1): head(1, 1) + written(first), seg(2): head(2, 4) + written(second)}
		}
		wantFiles(t, "behind it", d, asked)
		wantSame(t, "behind it", w, d, 0, some(1, 4))
		// The same if the size comes from the disk.
		d = diskOf(t, map[string]string{seg(1): head(1, 1) + written(first)})
		w = mustOpen(t, d, c.limit)
		must(t, w.Append(second))
		wantFiles(t, "behind Open", d, asked)
	}
}

// A segment that has become full by a CUT or a RESET is not left before an entry comes.
func TestOnlyAppendLeavesASegment(t *testing.T) {
	w, d := opened(t, 32)
	must(t, w.Append(some(1, 2)))
	full := head(1, 1) + written(some(1, 2))
	if len(full) < 32 {
		t.Fatalf("%d bytes", len(full))
	}
	must(t, w.Cut(2))
	must(t, w.Reset(9))
	must(t, w.Sync())
	must(t, w.Append(nil))
	wantFiles(t, "CUT and RESET", d, map[string]string{seg(1): full + cut(2) + reset(9)})
	must(t, w.Append(some(9, 9)))
	wantFiles(t, "Append", d, map[string]string{seg(1): full + cut(2) + reset(9), seg(2): head(2, 9) + entry(some(9, 9)[0])})
	wantSame(t, "Append", w, d, 8, some(9, 9))
}

// All but the last segment are synced, and so is the HEAD of the last one.
func TestWhatALeftSegmentKeeps(t *testing.T) {
	w, d := opened(t, 32)
	must(t, w.Append(some(1, 20)))
	names := d.Names()
	before := filesOf(t, d)
	if len(names) < 5 {
		t.Fatalf("segments: %q", names)
	}
	d.Crash(nil)
	last := names[len(names)-1]
	all, _ := contents(before[last])
	before[last] = rec(all[0])
	wantFiles(t, "a crash", d, before)
}

// Behind the greatest number that has eight digits, no segment can follow.
func TestTheGreatestNumber(t *testing.T) {
	for number := 99999997; number <= 99999999; number++ {
		d := diskOf(t, map[string]string{seg(number): head(number, 1)})
		w := mustOpen(t, d, 32)
		for i := 1; i <= 12; i++ {
			must(t, w.Append(some(i, i)))
			must(t, w.Sync())
			wantSame(t, "the greatest number", w, d, 0, some(1, i))
		}
		if names := d.Names(); len(names) != 99999999-number+1 || names[len(names)-1] != "wal-99999999" {
			t.Errorf("segments: %q", names)
		}
		d.Crash(nil)
		wantLog(t, "a crash", mustOpen(t, d, 32), 0, some(1, 12))
	}
}

// P6.3, Cut

func TestCut(t *testing.T) {
	for _, base := range []int{0, 1, 6, top - 8} {
		for from := base - 3; from <= base+12; from++ {
			w, d := opened(t, 65536)
			must(t, w.Reset(base+1))
			must(t, w.Append(some(base+1, base+8)))
			text := filesOf(t, d)[seg(1)]
			e := w.Cut(from)
			switch {
			case from <= base || from > base+9:
				want(t, "out of the log", e, api.ErrOrder)
				wantFiles(t, "out of the log", d, map[string]string{seg(1): text})
				wantSame(t, "out of the log", w, d, base, some(base+1, base+8))
			case from == base+9:
				want(t, "behind the log", e, api.OK)
				wantFiles(t, "behind the log", d, map[string]string{seg(1): text})
				wantSame(t, "behind the log", w, d, base, some(base+1, base+8))
			default:
				want(t, "within the log", e, api.OK)
				wantFiles(t, "within the log", d, map[string]string{seg(1): text + cut(from)})
				wantSame(t, "within the log", w, d, base, some(base+1, from-1))
			}
		}
	}
}

func TestCutFarOut(t *testing.T) {
	w, d := opened(t, 100)
	must(t, w.Append(some(1, 9)))
	for _, from := range []int{math.MinInt, math.MinInt + 1, -top, -1, 0, 11, 12, top, top + 1, math.MaxInt - 1, math.MaxInt} {
		want(t, "Cut", w.Cut(from), api.ErrOrder)
	}
	wantSame(t, "Cut", w, d, 0, some(1, 9))
}

func TestCutOfNoEntries(t *testing.T) {
	for _, base := range []int{0, 7, top - 1} {
		w, d := opened(t, 100)
		must(t, w.Reset(base+1))
		before := filesOf(t, d)
		want(t, "below the base", w.Cut(base-1), api.ErrOrder)
		want(t, "at the base", w.Cut(base), api.ErrOrder)
		want(t, "behind the base", w.Cut(base+1), api.OK)
		want(t, "above that", w.Cut(base+2), api.ErrOrder)
		wantFiles(t, "no entries", d, before)
		wantSame(t, "no entries", w, d, base, nil)
	}
}

func TestCutAcrossSegments(t *testing.T) {
	for from := 1; from <= 12; from++ {
		w, d := opened(t, 40)
		must(t, w.Append(some(1, 12)))
		must(t, w.Cut(from))
		wantSame(t, "Cut", w, d, 0, some(1, from-1))
		// Other entries take their places.
		var others []api.Entry
		for i := from; i <= 15; i++ {
			others = append(others, api.Entry{Index: i, Term: 99, Data: []byte("other")})
		}
		want(t, "the entry that was the next one", w.Append(some(13, 13)), api.ErrOrder)
		must(t, w.Append(others))
		wantSame(t, "Append behind Cut", w, d, 0, append(some(1, from-1), others...))
	}
}

// P6.3, Reset

func TestReset(t *testing.T) {
	for _, next := range []int{1, 2, 5, 9, 10, 11, 255, 256, 1 << 32, top - 1, top} {
		w, d := opened(t, 65536)
		must(t, w.Append(some(1, 9)))
		must(t, w.Reset(next))
		wantFiles(t, "Reset", d, map[string]string{seg(1): head(1, 1) + written(some(1, 9)) + reset(next)})
		wantSame(t, "Reset", w, d, next-1, nil)
		if next > 1 {
			want(t, "an entry ahead of it", w.Append(some(next-1, next-1)), api.ErrOrder)
		}
		if next < top {
			want(t, "an entry behind it", w.Append(some(next+1, next+1)), api.ErrOrder)
		}
		must(t, w.Append(some(next, next)))
		wantSame(t, "Append behind Reset", w, d, next-1, some(next, next))
		must(t, w.Reset(next))
		must(t, w.Reset(next))
		wantSame(t, "Reset again", w, d, next-1, nil)
	}
}

func TestResetRefuses(t *testing.T) {
	w, d := opened(t, 100)
	must(t, w.Append(some(1, 9)))
	before := filesOf(t, d)
	for _, next := range []int{math.MinInt, -top, -1, 0, top + 1, top + 2, 2 * top, math.MaxInt} {
		want(t, "Reset", w.Reset(next), api.ErrArg)
	}
	wantFiles(t, "Reset", d, before)
	wantSame(t, "Reset", w, d, 0, some(1, 9))
}

// P6.3, Sync

func TestSync(t *testing.T) {
	w, d := opened(t, 100)
	for _, change := range []func() api.Errno{
		func() api.Errno { return w.Append(some(1, 1)) },
		func() api.Errno { return w.Append(some(2, 10)) },
		func() api.Errno { return w.Cut(3) },
		func() api.Errno { return w.Append(some(3, 20)) },
		func() api.Errno { return w.Reset(7) },
		func() api.Errno { return w.Append(some(7, 7)) },
	} {
		must(t, change())
		must(t, w.Sync())
		first, l := w.First(), w.Get(w.First(), 100)
		before := filesOf(t, d)
		d.Crash(nil)
		wantFiles(t, "a crash behind Sync", d, before)
		w = mustOpen(t, d, 100)
		wantLog(t, "a crash behind Sync", w, first-1, l)
	}
}

// P6.4

// inSegments has the entries 1 to 12 in four segments, of which the first and the second hold three entries, the third five, and the last one.
func inSegments(t *testing.T) (*Wal, *disk.Disk) {
	t.Helper()
	d := diskOf(t, map[string]string{
		seg(1): head(1, 1) + written(some(1, 3)),
		seg(2): head(2, 4) + written(some(4, 6)),
		seg(3): head(3, 7) + written(some(7, 11)),
		seg(4): head(4, 12) + written(some(12, 12)),
	})
	w := mustOpen(t, d, 65536)
	wantLog(t, "four segments", w, 0, some(1, 12))
	return w, d
}

func TestDrop(t *testing.T) {
	for before := -2; before <= 16; before++ {
		w, d := inSegments(t)
		asked := filesOf(t, d)
		e := w.Drop(before)
		if before > 13 {
			want(t, "above the log", e, api.ErrOrder)
			wantFiles(t, "above the log", d, asked)
			wantSame(t, "above the log", w, d, 0, some(1, 12))
			continue
		}
		want(t, "within the log", e, api.OK)
		base := 0
		for number, next := range map[int]int{2: 4, 3: 7, 4: 12} {
			if next <= before {
				delete(asked, seg(number-1))
				base = max(base, next-1)
			}
		}
		wantFiles(t, "within the log", d, asked)
		wantSame(t, "within the log", w, d, base, some(base+1, 12))
		must(t, w.Append(some(13, 14)))
		wantSame(t, "Append behind Drop", w, d, base, some(base+1, 14))
	}
}

func TestDropFarOut(t *testing.T) {
	w, d := inSegments(t)
	before := filesOf(t, d)
	for _, n := range []int{math.MinInt, -top, -1, 0, 1, 3} {
		want(t, "too low", w.Drop(n), api.OK)
	}
	for _, n := range []int{14, 15, top, top + 1, math.MaxInt} {
		want(t, "too high", w.Drop(n), api.ErrOrder)
	}
	wantFiles(t, "far out", d, before)
	wantSame(t, "far out", w, d, 0, some(1, 12))
}

func TestDropBitByBit(t *testing.T) {
	w, d := inSegments(t)
	for _, c := range []struct{ before, base int }{{4, 3}, {4, 3}, {1, 3}, {11, 6}, {13, 11}, {13, 11}} {
		must(t, w.Drop(c.before))
		wantSame(t, "Drop", w, d, c.base, some(c.base+1, 12))
	}
	wantFiles(t, "all that can be dropped", d, map[string]string{seg(4): head(4, 12) + written(some(12, 12))})
	want(t, "above the log", w.Drop(14), api.ErrOrder)
}

func TestDropLeavesTheLastSegment(t *testing.T) {
	w, d := opened(t, 65536)
	must(t, w.Append(some(1, 9)))
	before := filesOf(t, d)
	must(t, w.Drop(10))
	wantFiles(t, "one segment", d, before)
	wantSame(t, "one segment", w, d, 0, some(1, 9))
}

// The base behind Drop comes from all records that are left.
func TestDropAheadOfCutsAndResets(t *testing.T) {
	other := func(from, to int) (l []api.Entry) {
		for i := from; i <= to; i++ {
			l = append(l, api.Entry{Index: i, Term: 50})
		}
		return l
	}
	start := head(1, 1) + written(some(1, 3))
	for what, c := range map[string]struct {
		second string
		before int
		base   int
		l      []api.Entry
	}{
		"a CUT below the HEAD":            {written(some(4, 6)) + cut(2) + written(other(2, 5)), 6, 1, other(2, 5)},
		"a CUT to the first entry":        {cut(1) + written(other(1, 4)), 5, 0, other(1, 4)},
		"a CUT at the HEAD":               {written(some(4, 6)) + cut(4) + written(other(4, 5)), 4, 3, other(4, 5)},
		"a CUT behind the HEAD":           {written(some(4, 6)) + cut(5) + written(other(5, 8)), 9, 3, append(some(4, 4), other(5, 8)...)},
		"two CUTs":                        {cut(3) + written(other(3, 5)) + cut(2) + written(other(2, 6)), 5, 1, other(2, 6)},
		"a CUT, then a CUT behind it":     {cut(2) + written(other(2, 5)) + cut(4) + written(some(4, 4)), 4, 1, append(other(2, 3), some(4, 4)...)},
		"a RESET below the HEAD":          {reset(2) + written(other(2, 4)), 5, 1, other(2, 4)},
		"a RESET far above":               {reset(100) + written(other(100, 101)), 50, 99, other(100, 101)},
		"a RESET, then a CUT":             {reset(2) + written(other(2, 6)) + cut(4), 4, 1, other(2, 3)},
		"a RESET to the least, then none": {written(some(4, 4)) + reset(1) + written(some(1, 3)), 4, 0, some(1, 3)},
	} {
		d := diskOf(t, map[string]string{seg(1): start, seg(2): head(2, 4) + c.second})
		w := mustOpen(t, d, 65536)
		must(t, w.Drop(c.before))
		wantFiles(t, what, d, map[string]string{seg(2): head(2, 4) + c.second})
		wantSame(t, what, w, d, c.base, c.l)
		next := w.Last() + 1
		must(t, w.Append(some(next, next)))
		wantSame(t, what+", Append", w, d, c.base, append(c.l, some(next, next)...))
	}
}

// A Cut by the methods themselves, below the HEAD of the segment that is left.
func TestDropBehindCut(t *testing.T) {
	w, d := opened(t, 100)
	next := 1
	for len(d.Names()) == 1 {
		next = w.Last() + 1
		must(t, w.Append(some(next, next)))
	}
	w = mustOpen(t, d, 65536)
	must(t, w.Cut(2))
	must(t, w.Drop(2))
	wantSame(t, "nothing to drop", w, d, 0, some(1, 1))
	must(t, w.Append(some(2, next-2)))
	must(t, w.Drop(next-1))
	wantSame(t, "the HEAD is above", w, d, 0, some(1, next-2))
	must(t, w.Append(some(next-1, next-1)))
	must(t, w.Drop(next))
	// The first segment is gone, but what it had behind the CUT stands in those that are left.
	if _, e := d.Read(seg(1)); e != api.ErrNone {
		t.Errorf("the first segment: error %d", e)
	}
	wantSame(t, "Drop", w, d, 1, some(2, next-1))
}
