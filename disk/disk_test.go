package disk

import (
	"bytes"
	"maps"
	"math"
	"slices"
	"strings"
	"testing"

	"jetway/api"
)

const (
	signs   = "abcdefghijklmnopqrstuvwxyz0123456789.-"
	longest = "abcdefghijklmnopqrstuvwxyz0123456789.-abcdefghijklmnopqrstuvwxyz"
)

// wrongNames are such as no file may have: too short, too long, or with one other sign at some place.
func wrongNames() []string {
	out := []string{"", longest + "a", strings.Repeat("a", 1000), "é", "aé", "a\xff", "٣", "a b", "../a", "wal_1", "Wal"}
	for c := range 256 {
		if sign := string([]byte{byte(c)}); !strings.Contains(signs, sign) {
			out = append(out, sign, sign+"a", "a"+sign, "a"+sign+"a", longest[:63]+sign)
		}
	}
	return out
}

func newDisk(t *testing.T, room int) *Disk {
	t.Helper()
	d, e := New(room)
	if d == nil || e != api.OK {
		t.Fatalf("New(%d): error %d", room, e)
	}
	return d
}

// must and want hold an error against the one that is asked for.
func must(t *testing.T, e api.Errno) {
	t.Helper()
	if e != api.OK {
		t.Fatalf("error %d", e)
	}
}

func want(t *testing.T, what string, got, asked api.Errno) {
	t.Helper()
	if got != asked {
		t.Errorf("%s: error %d, want %d", what, got, asked)
	}
}

// content is all that can be seen of the files of a disk whose power is on.
func content(t *testing.T, d *Disk) map[string]string {
	t.Helper()
	out := map[string]string{}
	size := 0
	names := d.Names()
	for _, name := range names {
		b, e := d.Read(name)
		if e != api.OK {
			t.Fatalf("Read(%q): error %d", name, e)
		}
		out[name] = string(b)
		size += len(b)
	}
	if !slices.IsSorted(names) || len(out) != len(names) {
		t.Fatalf("Names: %q", names)
	}
	if d.Size() != size {
		t.Fatalf("Size: %d, the files have %d bytes", d.Size(), size)
	}
	return out
}

func wantContent(t *testing.T, what string, d *Disk, asked map[string]string) {
	t.Helper()
	if got := content(t, d); !maps.Equal(got, asked) {
		t.Errorf("%s: the disk has %q, want %q", what, got, asked)
	}
}

// twin is a disk like d, so that what a crash leaves of d can be looked at without one.
func twin(d *Disk) *Disk {
	out := *d
	out.files = map[string]file{}
	for name, f := range d.files {
		out.files[name] = file{bytes: bytes.Clone(f.bytes), synced: f.synced}
	}
	return &out
}

// wantSynced checks what a crash that keeps nothing leaves.
func wantSynced(t *testing.T, what string, d *Disk, asked map[string]string) {
	t.Helper()
	after := twin(d)
	after.Crash(nil)
	wantContent(t, what+", then a crash", after, asked)
}

// modification is a call of a method that modifies, each with the name n (Rename from it to r, or from r to it). The disks that they are called for have less than 100 bytes of room.
type modification struct {
	name string
	call func(d *Disk, n, r string) api.Errno
}

func modifications() []modification {
	return []modification{
		{"Append", func(d *Disk, n, r string) api.Errno { return d.Append(n, []byte{9}) }},
		{"Append of nothing", func(d *Disk, n, r string) api.Errno { return d.Append(n, nil) }},
		{"Append of too much", func(d *Disk, n, r string) api.Errno { return d.Append(n, make([]byte, 100)) }},
		{"Sync", func(d *Disk, n, r string) api.Errno { return d.Sync(n) }},
		{"Rename from", func(d *Disk, n, r string) api.Errno { return d.Rename(n, r) }},
		{"Rename to", func(d *Disk, n, r string) api.Errno { return d.Rename(r, n) }},
		{"Rename onto itself", func(d *Disk, n, r string) api.Errno { return d.Rename(n, n) }},
		{"Unlink", func(d *Disk, n, r string) api.Errno { return d.Unlink(n) }},
	}
}

// P4.1

func TestNewRefusesWrongRoom(t *testing.T) {
	for _, room := range []int{0, -1, -1000, math.MinInt, 1<<24 + 1, 1 << 25, 1 << 32, math.MaxInt} {
		if d, e := New(room); d != nil || e != api.ErrArg {
			t.Errorf("New(%d): %v, error %d; want none, error 1", room, d, e)
		}
	}
}

func TestNewIsEmptyAndHasItsRoom(t *testing.T) {
	for _, room := range []int{1, 2, 3, 1000, 1<<24 - 1, 1 << 24} {
		d := newDisk(t, room)
		if len(d.Names()) != 0 || d.Size() != 0 || d.Off() {
			t.Errorf("room %d: %q, Size %d, Off %v", room, d.Names(), d.Size(), d.Off())
		}
		want(t, "Append of a byte too much", d.Append("a", make([]byte, room+1)), api.ErrFull)
		wantContent(t, "a byte too much", d, nil)
		want(t, "Append of all bytes", d.Append("a", make([]byte, room)), api.OK)
		want(t, "Append to a full disk", d.Append("b", []byte{1}), api.ErrFull)
		if d.Size() != room || len(d.Names()) != 1 {
			t.Errorf("room %d: %q, Size %d", room, d.Names(), d.Size())
		}
	}
}

func TestDisksAreApart(t *testing.T) {
	a, b := newDisk(t, 5), newDisk(t, 5)
	must(t, a.Append("a", []byte("xyz")))
	must(t, a.Arm(0))
	want(t, "the one", a.Sync("a"), api.ErrOff)
	wantContent(t, "the other one", b, nil)
	want(t, "the other one", b.Append("a", []byte("12345")), api.OK)
}

func TestNamesAscend(t *testing.T) {
	d := newDisk(t, 10)
	for _, name := range []string{"b", "a", "z", "aa", "0", "9", "-", ".", "a.", "a-", "a0", "ab", longest, "10", "2"} {
		must(t, d.Append(name, nil))
	}
	asked := []string{"-", ".", "0", "10", "2", "9", "a", "a-", "a.", "a0", "aa", "ab", longest, "b", "z"}
	if got := d.Names(); !slices.Equal(got, asked) {
		t.Errorf("Names: %q, want %q", got, asked)
	}
	must(t, d.Unlink("a0"))
	must(t, d.Rename("z", "a1"))
	asked = []string{"-", ".", "0", "10", "2", "9", "a", "a-", "a.", "a1", "aa", "ab", longest, "b"}
	if got := d.Names(); !slices.Equal(got, asked) {
		t.Errorf("Names: %q, want %q", got, asked)
	}
	clear(d.Names())
	if got := d.Names(); !slices.Equal(got, asked) {
		t.Errorf("Names, after its answer was changed: %q", got)
	}
}

func TestSizeIsOfAllFiles(t *testing.T) {
	d := newDisk(t, 100)
	step := func(e api.Errno, size int) {
		t.Helper()
		must(t, e)
		if d.Size() != size {
			t.Errorf("Size: %d, want %d", d.Size(), size)
		}
	}
	step(d.Append("a", make([]byte, 7)), 7)
	step(d.Append("b", make([]byte, 20)), 27)
	step(d.Append("a", make([]byte, 3)), 30)
	step(d.Append("c", nil), 30)
	step(d.Sync("a"), 30)
	step(d.Rename("b", "d"), 30)
	step(d.Rename("a", "a"), 30)
	step(d.Rename("c", "a"), 20)
	step(d.Append("a", make([]byte, 5)), 25)
	step(d.Unlink("d"), 5)
	step(d.Unlink("a"), 0)
}

func TestReadIsTheBytes(t *testing.T) {
	d := newDisk(t, 300)
	all := make([]byte, 256)
	for i := range all {
		all[i] = byte(i)
	}
	must(t, d.Append("a", all))
	must(t, d.Append("a", []byte{1, 2}))
	must(t, d.Append("b", []byte{}))
	if b, e := d.Read("a"); e != api.OK || !bytes.Equal(b, append(all, 1, 2)) {
		t.Errorf("Read: %v, error %d", b, e)
	}
	if b, e := d.Read("b"); e != api.OK || len(b) != 0 {
		t.Errorf("Read of an empty file: %v, error %d", b, e)
	}
}

// wantNoRead checks that Read answers this error, and no bytes.
func wantNoRead(t *testing.T, d *Disk, name string, asked api.Errno) {
	t.Helper()
	if b, e := d.Read(name); e != asked || len(b) != 0 {
		t.Errorf("Read(%q): %v, error %d; want error %d", name, b, e, asked)
	}
}

func TestReadRefuses(t *testing.T) {
	d := newDisk(t, 10)
	must(t, d.Append("a", []byte{1}))
	must(t, d.Append("gone", []byte{1}))
	must(t, d.Unlink("gone"))
	must(t, d.Append("old", []byte{1}))
	must(t, d.Rename("old", "new"))
	for _, name := range []string{"b", "aa", "gone", "old", longest} {
		wantNoRead(t, d, name, api.ErrNone)
	}
	for _, name := range wrongNames() {
		wantNoRead(t, d, name, api.ErrArg)
	}
	must(t, d.Arm(0))
	want(t, "Sync", d.Sync("a"), api.ErrOff)
	// Of several errors that Read could return, the power's is named first.
	for _, name := range append(wrongNames(), "a", "b") {
		wantNoRead(t, d, name, api.ErrOff)
	}
}

func TestReadIsNoModification(t *testing.T) {
	d := newDisk(t, 10)
	must(t, d.Append("a", []byte{1}))
	must(t, d.Fail(1))
	must(t, d.Arm(2))
	for range 5 {
		d.Read("a")
		d.Read("b")
		d.Names()
		d.Size()
		d.Off()
	}
	want(t, "the first", d.Sync("a"), api.OK)
	want(t, "the second", d.Sync("a"), api.ErrIo)
	want(t, "the third", d.Sync("a"), api.ErrOff)
}

func TestNamesAndSizeWithoutPower(t *testing.T) {
	d := newDisk(t, 10)
	must(t, d.Append("b", []byte{1, 2}))
	must(t, d.Append("a", []byte{3}))
	must(t, d.Arm(0))
	want(t, "Unlink", d.Unlink("a"), api.ErrOff)
	if !slices.Equal(d.Names(), []string{"a", "b"}) || d.Size() != 3 {
		t.Errorf("without power: %q, Size %d", d.Names(), d.Size())
	}
}

func TestDiskSharesNoMemory(t *testing.T) {
	d := newDisk(t, 100)
	in := []byte{1, 2, 3}
	must(t, d.Append("a", in))
	in[0] = 99
	must(t, d.Append("b", in))
	first, _ := d.Read("a")
	first[1] = 99
	_ = append(first, 99)
	second, _ := d.Read("a")
	second[2] = 99
	must(t, d.Append("a", []byte{4}))
	keep := []int{5, -7, 3}
	wantContent(t, "after changes from outside", d, map[string]string{"a": "\x01\x02\x03\x04", "b": "\x63\x02\x03"})
	d.Crash(keep)
	if !bytes.Equal(in, []byte{99, 2, 3}) || !slices.Equal(keep, []int{5, -7, 3}) {
		t.Error("an argument has changed")
	}
	if !bytes.Equal(first, []byte{1, 99, 3}) || !bytes.Equal(second, []byte{1, 2, 99}) {
		t.Error("two answers share memory")
	}
}

// P4.2

func TestNamesThatAreValid(t *testing.T) {
	names := []string{longest, longest[1:], "wal-00000001", "wal.new", "hard.new", "..", "-", "--", ".a", "00"}
	for i := range len(signs) {
		names = append(names, signs[i:i+1], "a"+signs[i:i+1])
	}
	if len(longest) != 64 {
		t.Fatal(len(longest))
	}
	for _, name := range names {
		d := newDisk(t, 10)
		want(t, "Append to "+name, d.Append(name, []byte{1}), api.OK)
		want(t, "Sync of "+name, d.Sync(name), api.OK)
		want(t, "Rename of "+name, d.Rename(name, "x-x"), api.OK)
		want(t, "Rename to "+name, d.Rename("x-x", name), api.OK)
		wantContent(t, name, d, map[string]string{name: "\x01"})
		want(t, "Unlink of "+name, d.Unlink(name), api.OK)
		wantContent(t, name, d, nil)
	}
}

func TestWrongNamesComeFirst(t *testing.T) {
	refuse := func(what string, d *Disk) {
		t.Helper()
		for _, name := range wrongNames() {
			for _, m := range modifications() {
				want(t, what+", "+m.name, m.call(d, name, "a"), api.ErrArg)
				want(t, what+", of none, "+m.name, m.call(d, name, "none"), api.ErrArg)
			}
		}
	}
	d := newDisk(t, 1)
	must(t, d.Append("a", []byte{1}))
	refuse("a full disk", d)
	must(t, d.Fail(0))
	refuse("ahead of an error", d)
	must(t, d.Arm(0))
	refuse("ahead of a power loss", d)
	if d.Off() {
		t.Error("a call with a wrong name has taken the power")
	}
	want(t, "the power loss", d.Sync("a"), api.ErrOff)
	refuse("without power", d)
	d.Crash([]int{1})
	wantContent(t, "after all", d, map[string]string{"a": "\x01"})
}

func TestWrongNamesDoNotCount(t *testing.T) {
	for _, m := range modifications() {
		d := newDisk(t, 10)
		must(t, d.Append("a", []byte{1}))
		must(t, d.Fail(1))
		must(t, d.Arm(2))
		for range 3 {
			want(t, m.name, m.call(d, "A", "a"), api.ErrArg)
		}
		want(t, m.name+", the first", d.Sync("a"), api.OK)
		want(t, m.name, m.call(d, "", "a"), api.ErrArg)
		want(t, m.name+", the second", d.Sync("a"), api.ErrIo)
		want(t, m.name, m.call(d, "a/b", "a"), api.ErrArg)
		want(t, m.name+", the third", d.Sync("a"), api.ErrOff)
	}
}

func TestAppend(t *testing.T) {
	d := newDisk(t, 10)
	want(t, "Append to a new file", d.Append("a", []byte("12")), api.OK)
	want(t, "Append to a file", d.Append("a", []byte("345")), api.OK)
	want(t, "Append to another file", d.Append("b", []byte("67")), api.OK)
	wantContent(t, "Append", d, map[string]string{"a": "12345", "b": "67"})
	wantSynced(t, "Append", d, map[string]string{"a": "", "b": ""})
}

func TestAppendOfNothing(t *testing.T) {
	d := newDisk(t, 3)
	want(t, "Append of nil", d.Append("a", nil), api.OK)
	want(t, "Append of nothing", d.Append("b", []byte{}), api.OK)
	wantContent(t, "new files", d, map[string]string{"a": "", "b": ""})
	must(t, d.Append("c", []byte("123")))
	// Nothing has room on a full disk too.
	want(t, "Append of nothing", d.Append("d", nil), api.OK)
	want(t, "Append of nothing", d.Append("c", nil), api.OK)
	wantContent(t, "a full disk", d, map[string]string{"a": "", "b": "", "c": "123", "d": ""})
}

func TestAppendToTheBrim(t *testing.T) {
	d := newDisk(t, 5)
	must(t, d.Append("a", []byte("12")))
	must(t, d.Append("b", []byte("3")))
	want(t, "a byte too much", d.Append("a", []byte("456")), api.ErrFull)
	want(t, "a byte too much, a new file", d.Append("c", []byte("456")), api.ErrFull)
	wantContent(t, "refused", d, map[string]string{"a": "12", "b": "3"})
	want(t, "just the rest", d.Append("b", []byte("45")), api.OK)
	want(t, "one more", d.Append("b", []byte("6")), api.ErrFull)
	wantContent(t, "full", d, map[string]string{"a": "12", "b": "345"})
}

func TestAppendExampleOfRoom(t *testing.T) {
	d := newDisk(t, 2)
	want(t, "three bytes", d.Append("a", []byte{1, 2, 3}), api.ErrFull)
	wantContent(t, "three bytes", d, nil)
}

func TestRoomComesBack(t *testing.T) {
	d := newDisk(t, 4)
	fill := func(what, name string, n int) {
		t.Helper()
		want(t, what+", a byte too much", d.Append(name, make([]byte, n+1)), api.ErrFull)
		want(t, what, d.Append(name, make([]byte, n)), api.OK)
	}
	fill("at first", "a", 4)
	must(t, d.Unlink("a"))
	fill("after Unlink", "b", 4)
	must(t, d.Append("c", nil))
	must(t, d.Rename("c", "b"))
	fill("after Rename onto a file", "d", 4)
	d.Crash([]int{0, 1})
	fill("after Crash", "e", 3)
}

func TestSync(t *testing.T) {
	d := newDisk(t, 20)
	want(t, "Sync of no file", d.Sync("a"), api.ErrNone)
	wantContent(t, "Sync of no file", d, nil)
	must(t, d.Append("a", []byte("12")))
	must(t, d.Append("b", []byte("34")))
	must(t, d.Append("c", nil))
	want(t, "Sync", d.Sync("a"), api.OK)
	want(t, "Sync of an empty file", d.Sync("c"), api.OK)
	wantContent(t, "Sync", d, map[string]string{"a": "12", "b": "34", "c": ""})
	wantSynced(t, "Sync of a and c", d, map[string]string{"a": "12", "b": "", "c": ""})
	must(t, d.Append("a", []byte("56")))
	wantSynced(t, "Append behind it", d, map[string]string{"a": "12", "b": "", "c": ""})
	want(t, "Sync again", d.Sync("a"), api.OK)
	want(t, "and again", d.Sync("a"), api.OK)
	wantSynced(t, "Sync again", d, map[string]string{"a": "1256", "b": "", "c": ""})
}

func TestRename(t *testing.T) {
	d := newDisk(t, 20)
	must(t, d.Append("a", []byte("12")))
	must(t, d.Sync("a"))
	must(t, d.Append("a", []byte("34")))
	must(t, d.Append("b", []byte("5")))
	want(t, "Rename of no file", d.Rename("x", "a"), api.ErrNone)
	want(t, "Rename of no file onto itself", d.Rename("x", "x"), api.ErrNone)
	want(t, "Rename of no file", d.Rename("x", "y"), api.ErrNone)
	wantContent(t, "nothing renamed", d, map[string]string{"a": "1234", "b": "5"})
	want(t, "Rename", d.Rename("a", "z"), api.OK)
	wantContent(t, "Rename", d, map[string]string{"b": "5", "z": "1234"})
	// The name lasts; which bytes are synced goes with the file.
	wantSynced(t, "Rename", d, map[string]string{"b": "", "z": "12"})
	want(t, "Rename of what was renamed", d.Rename("a", "q"), api.ErrNone)
}

func TestRenameOntoAFile(t *testing.T) {
	d := newDisk(t, 20)
	must(t, d.Append("old", []byte("123456")))
	must(t, d.Sync("old"))
	must(t, d.Append("new", []byte("ab")))
	must(t, d.Sync("new"))
	must(t, d.Append("new", []byte("c")))
	want(t, "Rename onto a file", d.Rename("new", "old"), api.OK)
	wantContent(t, "Rename onto a file", d, map[string]string{"old": "abc"})
	wantSynced(t, "Rename onto a file", d, map[string]string{"old": "ab"})
	must(t, d.Append("old", []byte("d")))
	must(t, d.Append("new", []byte("e")))
	wantContent(t, "Append afterwards", d, map[string]string{"new": "e", "old": "abcd"})
}

func TestRenameOntoItself(t *testing.T) {
	d := newDisk(t, 20)
	must(t, d.Append("a", []byte("12")))
	must(t, d.Sync("a"))
	must(t, d.Append("a", []byte("3")))
	want(t, "Rename onto itself", d.Rename("a", "a"), api.OK)
	wantContent(t, "Rename onto itself", d, map[string]string{"a": "123"})
	wantSynced(t, "Rename onto itself", d, map[string]string{"a": "12"})
}

func TestUnlink(t *testing.T) {
	d := newDisk(t, 20)
	must(t, d.Append("a", []byte("12")))
	must(t, d.Sync("a"))
	must(t, d.Append("b", []byte("3")))
	want(t, "Unlink of no file", d.Unlink("c"), api.ErrNone)
	wantContent(t, "Unlink of no file", d, map[string]string{"a": "12", "b": "3"})
	want(t, "Unlink", d.Unlink("a"), api.OK)
	wantContent(t, "Unlink", d, map[string]string{"b": "3"})
	wantSynced(t, "Unlink", d, map[string]string{"b": ""})
	want(t, "Unlink of what was unlinked", d.Unlink("a"), api.ErrNone)
	// A new file of that name has nothing of the old one.
	must(t, d.Append("a", []byte("4567")))
	wantContent(t, "a new file", d, map[string]string{"a": "4567", "b": "3"})
	wantSynced(t, "a new file", d, map[string]string{"a": "", "b": ""})
}

func TestModificationsWithoutPower(t *testing.T) {
	d := newDisk(t, 10)
	must(t, d.Append("a", []byte("12")))
	must(t, d.Append("b", []byte("3")))
	must(t, d.Arm(0))
	want(t, "the power loss", d.Sync("a"), api.ErrOff)
	must(t, d.Fail(0))
	for _, m := range modifications() {
		want(t, m.name, m.call(d, "a", "b"), api.ErrOff)
		want(t, m.name+", no file", m.call(d, "x", "y"), api.ErrOff)
	}
	if !d.Off() {
		t.Error("the power has come back")
	}
	wantSynced(t, "without power", d, map[string]string{"a": "", "b": ""})
	d.Crash([]int{9, 9})
	wantContent(t, "without power", d, map[string]string{"a": "12", "b": "3"})
}
