package wal

import (
	"maps"
	"math"
	"strings"
	"testing"

	"jetway/api"
	"jetway/disk"
)

// P6.1

func TestOpenRefuses(t *testing.T) {
	refuse := func(what string, d *disk.Disk, limit int, asked api.Errno) {
		t.Helper()
		w, e := Open(d, limit)
		if w != nil || e != asked {
			t.Errorf("%s: %v, error %d; want none, error %d", what, w, e, asked)
		}
	}
	d := newDisk(t)
	must(t, d.Append("wal.new", []byte{1}))
	off := newDisk(t)
	must(t, off.Arm(0))
	want(t, "the power", off.Sync("a"), api.ErrOff)
	for _, limit := range []int{math.MinInt, -1, 0, 1, 31, 65537, 1 << 20, math.MaxInt} {
		refuse("a limit", d, limit, api.ErrArg)
		// ErrArg is named ahead of ErrOff.
		refuse("a limit without power", off, limit, api.ErrArg)
	}
	for _, limit := range []int{32, 100, 65536} {
		refuse("no disk", nil, limit, api.ErrArg)
		refuse("no power", off, limit, api.ErrOff)
	}
	wantFiles(t, "refused", d, map[string]string{"wal.new": "\x01"})
	if len(off.Names()) != 0 {
		t.Errorf("files without power: %q", off.Names())
	}
}

func TestOpenOfAnEmptyDisk(t *testing.T) {
	for _, limit := range []int{32, 33, 1000, 65535, 65536} {
		d := newDisk(t)
		w := mustOpen(t, d, limit)
		wantFiles(t, "an empty disk", d, map[string]string{"wal-00000001": head(1, 1)})
		wantSame(t, "an empty disk", w, d, 0, nil)
		d.Crash(nil)
		wantFiles(t, "a crash", d, map[string]string{"wal-00000001": head(1, 1)})
		wantLog(t, "a crash", mustOpen(t, d, limit), 0, nil)
	}
}

// The bytes of a log are those that the document tells, one by one.
func TestBytes(t *testing.T) {
	w, d := opened(t, 100)
	must(t, w.Append([]api.Entry{{Index: 1, Term: 258, Kind: 2, Data: []byte{7, 8}}}))
	must(t, w.Cut(1))
	must(t, w.Reset(300))
	b, e := d.Read("wal-00000001")
	must(t, e)
	all, used := contents(string(b))
	asked := []string{"\x00\x01\x01\x01\x01", "\x01\x01\x01\x01\x02\x01\x02\x01\x02\x01\x02\x07\x08", "\x01\x02\x01\x01", "\x01\x03\x02\x01\x2c"}
	if used != len(b) || strings.Join(all, "|") != strings.Join(asked, "|") {
		t.Errorf("the contents are %q, want %q", all, asked)
	}
}

func TestOpenLeavesOtherFiles(t *testing.T) {
	others := map[string]string{
		"hard": "a", "snap": "b", "hard.new": "c", "wal": "d", "wal-": "e", "wal-0000001": head(1, 1), "wal-000000001": head(1, 1),
		"wal-00000000": head(0, 1), "wal--0000001": head(1, 1), "wal-0000000a": "f", "wal-0x000001": "g", "wal-00000001.new": "h",
		"wal.00000001": "i", "xwal-00000001": head(1, 1), "wal-1": head(1, 1), "wal-0000001.": "j", "wal-.0000001": "k", "00000001": "l",
		"wal.new2": "m", "wal-new": "n", "a": "", "z": "",
	}
	d := diskOf(t, others)
	w := mustOpen(t, d, 60)
	must(t, w.Append(some(1, 9)))
	must(t, w.Drop(10))
	d.Crash(nil)
	w = mustOpen(t, d, 60)
	got := filesOf(t, d)
	for name := range got {
		if segNumber(name) > 0 {
			delete(got, name)
		}
	}
	if !maps.Equal(got, others) {
		t.Errorf("the other files are %q, want %q", got, others)
	}
}

func TestOpenRemovesWhatWasLeft(t *testing.T) {
	for _, left := range []string{"", "x", head(1, 1), head(1, 1) + written(some(1, 2))} {
		d := diskOf(t, map[string]string{"wal.new": left})
		wantSame(t, "no segment", mustOpen(t, d, 100), d, 0, nil)
		wantFiles(t, "no segment", d, map[string]string{seg(1): head(1, 1)})
		whole := head(5, 3) + written(some(3, 4))
		d = diskOf(t, map[string]string{"wal.new": left, seg(5): whole})
		wantSame(t, "a whole segment", mustOpen(t, d, 100), d, 2, some(3, 4))
		wantFiles(t, "a whole segment", d, map[string]string{seg(5): whole})
		d = diskOf(t, map[string]string{"wal.new": left, seg(5): whole + "x"})
		wantSame(t, "a torn segment", mustOpen(t, d, 100), d, 2, some(3, 4))
		wantFiles(t, "a torn segment", d, map[string]string{seg(5): whole})
	}
}

// wantRepair opens a log on the files, and holds the log and the files that are left against what is asked.
func wantRepair(t *testing.T, what string, files, asked map[string]string, base int, l []api.Entry) {
	t.Helper()
	d := diskOf(t, files)
	w := mustOpen(t, d, 65536)
	wantFiles(t, what, d, asked)
	wantSame(t, what, w, d, base, l)
	// What was repaired is synced.
	d.Crash(nil)
	wantFiles(t, what+", a crash", d, asked)
	next := w.Last() + 1
	if next <= top {
		w = mustOpen(t, d, 65536)
		must(t, w.Append(some(next, next)))
		wantSame(t, what+", Append", w, d, base, append(l, some(next, next)...))
	}
}

// three is a log in three segments, whose last records are of all kinds.
func three() map[string]string {
	return map[string]string{
		seg(1): head(1, 1) + written(some(1, 3)),
		seg(2): head(2, 4) + written(some(4, 6)) + cut(6) + written(some(6, 7)),
		seg(3): head(3, 8) + written(some(8, 8)) + reset(21) + written(some(21, 22)) + cut(22),
	}
}

func TestOpenOfAWholeLog(t *testing.T) {
	wantRepair(t, "three segments", three(), three(), 20, some(21, 21))
	two := three()
	delete(two, seg(3))
	wantRepair(t, "two segments", two, two, 0, some(1, 7))
	late := map[string]string{seg(7): head(7, 30) + written(some(30, 31)), seg(8): head(8, 32)}
	wantRepair(t, "later numbers", late, late, 29, some(30, 31))
	last := map[string]string{seg(99999998): head(99999998, 5), seg(99999999): head(99999999, 5) + written(some(5, 5))}
	wantRepair(t, "the greatest numbers", last, last, 4, some(5, 5))
}

// Each segment is cut off behind each of its bytes, the others being there, or not.
func TestOpenOfTruncatedSegments(t *testing.T) {
	for number := 1; number <= 3; number++ {
		whole := three()[seg(number)]
		for size := range len(whole) {
			files := three()
			files[seg(number)] = whole[:size]
			// All that is whole ahead of the end of the shortened segment stays.
			asked := map[string]string{}
			for n := 1; n < number; n++ {
				asked[seg(n)] = files[seg(n)]
			}
			if _, used := contents(whole[:size]); used > 0 {
				asked[seg(number)] = whole[:used]
			}
			l, _, _ := recoverable(asked)
			if len(asked) == 0 {
				asked[seg(1)] = head(1, 1)
			}
			wantRepair(t, "a truncated segment", files, asked, l.base, l.entries)
			if number > 1 {
				files[seg(9)] = "x"
				wantRepair(t, "a truncated segment, and another one", files, asked, l.base, l.entries)
			}
		}
	}
}

func TestOpenOfTornSegments(t *testing.T) {
	good := written(some(4, 6))
	for what, bad := range wrongRecords() {
		for _, tail := range []string{"", "x", written(some(7, 7)), head(2, 7)} {
			files := map[string]string{seg(1): head(1, 1) + written(some(1, 3)), seg(2): head(2, 4) + good + bad + tail}
			asked := map[string]string{seg(1): files[seg(1)], seg(2): head(2, 4) + good}
			wantRepair(t, what, files, asked, 0, some(1, 6))
			files[seg(3)] = head(3, 7) + written(some(7, 8))
			files[seg(4)] = ""
			files[seg(6)] = head(6, 9)
			wantRepair(t, what+", and more segments", files, asked, 0, some(1, 6))
		}
		// In the first segment, and right behind its HEAD; the entry must be the wrong one there too.
		files := map[string]string{seg(3): head(3, 7) + bad + written(some(7, 8)), seg(4): head(4, 9)}
		wantRepair(t, what+", behind the HEAD", files, map[string]string{seg(3): head(3, 7)}, 6, nil)
		// In place of the HEAD.
		files = map[string]string{seg(1): bad + head(1, 1), seg(2): head(2, 1)}
		wantRepair(t, what+", in place of the HEAD", files, map[string]string{seg(1): head(1, 1)}, 0, nil)
	}
}

// wrongRecords are bytes that can't stand where the next Index is 7: in segment 2, and in segment 3 behind its HEAD; nor at the beginning of segment 1.
func wrongRecords() map[string]string {
	ent := func(l ...int) string { return nums(append([]int{1}, l...)...) }
	long := strings.Repeat("d", 4097)
	turned := []byte(entry(some(7, 7)[0]))
	turned[len(turned)-1] ^= 1
	l := map[string]string{
		"a byte":                          "x",
		"zeros":                           strings.Repeat("\x00", 50),
		"a turned bit":                    string(turned),
		"a part of a record":              entry(some(7, 7)[0])[:9],
		"an empty record":                 rec(""),
		"a kind alone":                    rec(num(2)),
		"a HEAD of this segment":          head(2, 7),
		"a HEAD of the third segment":     head(3, 7),
		"a HEAD of the next segment":      head(4, 7),
		"a HEAD of no segment":            head(0, 7),
		"a HEAD without its Index":        rec(nums(0, 1)),
		"a HEAD and a byte":               rec(nums(0, 1, 1) + "\x00"),
		"a HEAD with the Index 0":         head(1, 0),
		"a HEAD with too great an Index":  head(1, top+2),
		"a HEAD with too great a number":  head(100000000, 1),
		"a kind of no record":             rec(nums(4, 7)),
		"another kind of no record":       rec(nums(255, 7)),
		"a kind beyond all":               rec("\x08\xff\xff\xff\xff\xff\xff\xff\xff" + num(7)),
		"a kind below 0":                  rec("\x11\x01" + num(7)),
		"a kind in two bytes":             rec("\x02\x00\x02" + num(7)),
		"a kind with a zero":              rec("\x01\x00" + num(7)),
		"a CUT without its Index":         rec(num(2)),
		"a CUT at 0":                      cut(0),
		"a CUT too high":                  cut(top + 2),
		"a CUT at no number":              rec(num(2) + "\x09" + strings.Repeat("\x01", 9)),
		"a CUT below 0":                   rec(num(2) + "\x11\x01"),
		"a CUT with a leading zero":       rec(num(2) + "\x02\x00\x05"),
		"a CUT and a byte":                rec(nums(2, 5) + "\x00"),
		"a CUT and a number":              rec(nums(2, 5, 1)),
		"half a CUT":                      rec(num(2) + "\x02\x05"),
		"a RESET without its Index":       rec(num(3)),
		"a RESET to 0":                    reset(0),
		"a RESET too high":                reset(top + 2),
		"a RESET below 0":                 rec(num(3) + "\x11\x05"),
		"a RESET and a byte":              rec(nums(3, 5) + "\x05"),
		"an ENTRY that was there":         entry(api.Entry{Index: 6}),
		"an ENTRY from far below":         entry(api.Entry{Index: 2}),
		"an ENTRY behind the next":        entry(api.Entry{Index: 8}),
		"an ENTRY with the Index 0":       entry(api.Entry{Index: 0}),
		"an ENTRY with too great a Term":  entry(api.Entry{Index: 7, Term: top + 1}),
		"an ENTRY with too great a Kind":  entry(api.Entry{Index: 7, Kind: 8}),
		"an ENTRY with a greater Kind":    entry(api.Entry{Index: 7, Kind: 255}),
		"an ENTRY with too many Data":     entry(api.Entry{Index: 7, Data: []byte(long)}),
		"an ENTRY with far too many Data": entry(api.Entry{Index: 7, Data: []byte(strings.Repeat(long, 15))}),
		"an ENTRY without Data":           rec(ent(7, 1, 1)),
		"an ENTRY without a Kind":         rec(ent(7, 1)),
		"an ENTRY without a Term":         rec(ent(7)),
		"an ENTRY with too few Data":      rec(ent(7, 1, 1, 3) + "dd"),
		"an ENTRY with a byte too many":   rec(ent(7, 1, 1, 3) + "dddd"),
		"an ENTRY below 0":                rec(num(1) + "\x11\x07" + nums(1, 1, 0)),
		"an ENTRY with a Term below 0":    rec(nums(1, 7) + "\x11\x01" + nums(1, 0)),
		"an ENTRY with a Kind below 0":    rec(nums(1, 7, 1) + "\x11\x01" + num(0)),
		"an ENTRY with leading zeros":     rec(num(1) + "\x02\x00\x07" + nums(1, 1, 0)),
		"an ENTRY with a length that has": rec(nums(1, 7, 1, 1) + "\x02\x00\x01" + "d"),
	}
	return l
}

// The first records are such as segment 3 can't have, behind the entry 6 in segment 2.
func TestOpenOfWrongHeads(t *testing.T) {
	ahead := map[string]string{seg(1): head(1, 1) + written(some(1, 3)), seg(2): head(2, 4) + written(some(4, 6))}
	for what, bad := range map[string]string{
		"nothing":            "",
		"half a HEAD":        head(3, 7)[:9],
		"all but a byte":     head(3, 7)[:len(head(3, 7))-1],
		"a lower number":     head(2, 7),
		"a greater number":   head(4, 7),
		"the number 0":       head(0, 7),
		"a lower Index":      head(3, 6),
		"a greater Index":    head(3, 8),
		"the first Index":    head(3, 1),
		"the Index 0":        head(3, 0),
		"no Index":           rec(nums(0, 3)),
		"an Index too many":  rec(nums(0, 3, 7, 7)),
		"a byte too many":    rec(nums(0, 3, 7) + "\x00"),
		"an ENTRY":           written(some(7, 7)),
		"an ENTRY ahead":     written(some(7, 7)) + head(3, 8),
		"a CUT ahead":        cut(7) + head(3, 7),
		"a RESET ahead":      reset(7) + head(3, 7),
		"an empty one ahead": rec("") + head(3, 7),
		"a byte ahead":       "x" + head(3, 7),
	} {
		for _, rest := range []string{"", written(some(7, 9))} {
			if what == "nothing" && rest != "" {
				continue
			}
			files := maps.Clone(ahead)
			files[seg(3)] = bad + rest
			wantRepair(t, what, files, ahead, 0, some(1, 6))
			files[seg(4)] = head(4, 7) + written(some(7, 7))
			files[seg(5)] = head(5, 10)
			wantRepair(t, what+", and more segments", files, ahead, 0, some(1, 6))
		}
	}
}

func TestOpenOfWrongFirstHeads(t *testing.T) {
	for _, bad := range []string{"", "x", head(4, 1), head(6, 1), head(5, 0), head(5, top+2), head(5, 1)[:10], cut(1), rec("")} {
		files := map[string]string{seg(5): bad}
		fresh := map[string]string{seg(1): head(1, 1)}
		wantRepair(t, "a wrong HEAD", files, fresh, 0, nil)
		// The next one doesn't become the first one, good as it is.
		files[seg(6)] = head(6, 3) + written(some(3, 4))
		wantRepair(t, "a wrong HEAD, and more segments", files, fresh, 0, nil)
	}
}

func TestOpenOfGaps(t *testing.T) {
	for _, gap := range [][2]int{{1, 3}, {1, 4}, {2, 99999999}, {9, 11}, {1, 100}} {
		files := map[string]string{
			seg(gap[0]): head(gap[0], 1) + written(some(1, 3)),
			seg(gap[1]): head(gap[1], 4) + written(some(4, 6)),
		}
		asked := map[string]string{seg(gap[0]): files[seg(gap[0])]}
		wantRepair(t, "a gap", files, asked, 0, some(1, 3))
	}
	files := three()
	files[seg(5)] = head(5, 22)
	files[seg(6)] = head(6, 22)
	wantRepair(t, "a gap behind three", files, three(), 20, some(21, 21))
}

func TestOpenOfEmptySegments(t *testing.T) {
	start := head(1, 1) + written(some(1, 3))
	asked := map[string]string{seg(1): start}
	wantRepair(t, "at the end", map[string]string{seg(1): start, seg(2): ""}, asked, 0, some(1, 3))
	wantRepair(t, "in between", map[string]string{seg(1): start, seg(2): "", seg(3): head(3, 4)}, asked, 0, some(1, 3))
	fresh := map[string]string{seg(1): head(1, 1)}
	wantRepair(t, "alone", map[string]string{seg(1): ""}, fresh, 0, nil)
	wantRepair(t, "alone, with a later number", map[string]string{seg(4): ""}, fresh, 0, nil)
	wantRepair(t, "at the beginning", map[string]string{seg(1): "", seg(2): head(2, 4)}, fresh, 0, nil)
}

// Records that are right, though the methods would not write them there.
func TestOpenTakesAllThatIsRight(t *testing.T) {
	for what, c := range map[string]struct {
		text string
		base int
		l    []api.Entry
	}{
		"the greatest next Index":       {head(1, top+1), top, nil},
		"the last Index":                {head(1, top) + written(some(top, top)), top - 1, some(top, top)},
		"a CUT of nothing":              {head(1, 4) + cut(4), 3, nil},
		"a CUT behind the log":          {head(1, 4) + written(some(4, 6)) + cut(7), 3, some(4, 6)},
		"a CUT far behind the log":      {head(1, 4) + written(some(4, 6)) + cut(top+1), 3, some(4, 6)},
		"a CUT at the base plus 1":      {head(1, 4) + written(some(4, 6)) + cut(4), 3, nil},
		"a CUT at the base":             {head(1, 4) + written(some(4, 6)) + cut(3), 2, nil},
		"a CUT below the base":          {head(1, 4) + written(some(4, 6)) + cut(1) + written(some(1, 1)), 0, some(1, 1)},
		"a CUT of all, then entries":    {head(1, 4) + written(some(4, 6)) + cut(2) + written(some(2, 9)), 1, some(2, 9)},
		"a CUT below the base, without": {head(1, top+1) + cut(top), top - 1, nil},
		"a RESET to the greatest":       {head(1, 4) + written(some(4, 6)) + reset(top+1), top, nil},
		"a RESET to the least":          {head(1, 4) + reset(1) + written(some(1, 2)), 0, some(1, 2)},
		"many RESETs":                   {head(1, 4) + reset(9) + reset(9) + reset(3) + written(some(3, 3)), 2, some(3, 3)},
		"edges":                         {head(1, 4) + written(edges(4)), 3, edges(4)},
	} {
		files := map[string]string{seg(1): c.text}
		wantRepair(t, what, files, files, c.base, c.l)
		files[seg(2)] = head(2, c.base+len(c.l)+1)
		wantRepair(t, what+", then a segment", files, files, c.base, c.l)
	}
}

// No entry can follow that of the greatest Index.
func TestOpenRefusesEntriesBehindTheGreatestIndex(t *testing.T) {
	for base, good := range map[int]string{
		top:     head(1, top+1),
		top - 1: head(1, top) + written(some(top, top)),
		top - 2: head(1, 1) + reset(top-1) + written(some(top-1, top)),
	} {
		files := map[string]string{seg(1): good + written(some(top+1, top+1)), seg(2): head(2, top+2)}
		wantRepair(t, "behind the greatest Index", files, map[string]string{seg(1): good}, base, some(base+1, top))
	}
}

// What was not synced when Open came is recovered, but not synced by it.
func TestOpenWithoutACrash(t *testing.T) {
	w, d := opened(t, 1000)
	must(t, w.Append(some(1, 4)))
	must(t, w.Sync())
	must(t, w.Append(some(5, 6)))
	w = mustOpen(t, d, 1000)
	wantLog(t, "no crash", w, 0, some(1, 6))
	d.Crash(nil)
	wantLog(t, "a crash", mustOpen(t, d, 1000), 0, some(1, 4))
}

func TestOpenOnAFullDisk(t *testing.T) {
	size := len(head(1, 1))
	for free := range size + 1 {
		d, e := disk.New(100)
		must(t, e)
		must(t, d.Append("other", make([]byte, 100-free)))
		w, e := Open(d, 100)
		if free < size && (w != nil || e != api.ErrFull || len(d.Names()) != 1) {
			t.Errorf("%d bytes free: %v, error %d, files %q", free, w, e, d.Names())
		}
		if free == size && (w == nil || e != api.OK) {
			t.Errorf("%d bytes free: error %d", free, e)
		}
	}
	// A repair needs room for the bytes that stay, beside those that are there; what was left of an earlier one makes room.
	torn := head(1, 1) + written(some(1, 4)) + "x"
	d, e := disk.New(2*len(torn) - 2)
	must(t, e)
	must(t, d.Append(seg(1), []byte(torn)))
	if w, e := Open(d, 100); w != nil || e != api.ErrFull {
		t.Errorf("no room for the repair: error %d", e)
	}
	wantFiles(t, "no room", d, map[string]string{seg(1): torn})
	d, e = disk.New(2*len(torn) - 1)
	must(t, e)
	must(t, d.Append(seg(1), []byte(torn)))
	must(t, d.Append("wal.new", make([]byte, len(torn)-1)))
	wantLog(t, "room enough", mustOpen(t, d, 100), 0, some(1, 4))
	wantFiles(t, "room enough", d, map[string]string{seg(1): torn[:len(torn)-1]})
}
