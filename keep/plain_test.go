package keep

import (
	"encoding/binary"
	"hash/crc32"
	"maps"
	"strings"
	"testing"

	"jetway/api"
	"jetway/disk"
)

// A second reading of the chapter, against which the package is held: encodings by the library, validity by counting, and what is done to the disk as a list.

const (
	room = 1 << 20
	top  = 1 << 40 // the greatest Index and Term
)

func must(t *testing.T, e api.Errno) {
	t.Helper()
	if e != api.OK {
		t.Fatalf("error %d", e)
	}
}

func want(t *testing.T, what string, got, asked api.Errno) {
	t.Helper()
	if got != asked {
		t.Fatalf("%s: error %d, want %d", what, got, asked)
	}
}

func number(n int) string {
	digits := strings.TrimLeft(string(binary.BigEndian.AppendUint64(nil, uint64(n))), "\x00")
	return string([]byte{byte(len(digits))}) + digits
}

func framed(content string) string {
	length := string(binary.BigEndian.AppendUint32(nil, uint32(len(content))))
	sum := crc32.Checksum([]byte(length+content), crc32.MakeTable(crc32.Castagnoli))
	return length + string(binary.BigEndian.AppendUint32(nil, sum)) + content
}

func plainHard(h api.Hard) string { return number(h.Term) + number(h.Vote) }

func plainSnap(s api.Snap) string {
	b := number(s.Index) + number(s.Term)
	for _, l := range [][]int{s.Group.Voters, s.Group.Learners} {
		b += number(len(l))
		for _, n := range l {
			b += number(n)
		}
	}
	return b + number(len(s.Data)) + string(s.Data)
}

func within(low, n, high int) bool { return low <= n && n <= high }

func plainValidHard(h api.Hard) bool { return within(0, h.Term, top) && within(0, h.Vote, 15) }

// plainValidGroup asks which nodes are there, and whether both lists are just those, each node once.
func plainValidGroup(g api.Group) bool {
	seen := map[int]int{}
	for _, l := range [][]int{g.Voters, g.Learners} {
		for i, n := range l {
			seen[n]++
			if !within(1, n, 15) || seen[n] > 1 || i > 0 && l[i-1] > n {
				return false
			}
		}
	}
	return len(g.Voters) >= 1
}

func plainValidSnap(s api.Snap) bool {
	return within(0, s.Index, top) && within(0, s.Term, top) && plainValidGroup(s.Group) && len(s.Data) <= 60000
}

// loose takes numbers from the front of bytes without asking whether they have the form: whoever uses it must encode what it says again.
type loose struct{ rest string }

func (l *loose) take(n int) string {
	n = min(n, len(l.rest))
	b := l.rest[:n]
	l.rest = l.rest[n:]
	return b
}

func (l *loose) number() int {
	n := 0
	if first := l.take(1); first != "" {
		for _, c := range []byte(l.take(int(first[0]))) {
			n = n<<8 | int(c)
		}
	}
	return n
}

func (l *loose) list() []int {
	var out []int
	for i, n := 0, l.number(); i < n && l.rest != ""; i++ {
		out = append(out, l.number())
	}
	return out
}

// plainHardOf and plainSnapOf are the valid ones whose encoding is b, if there is one.
func plainHardOf(b string) (api.Hard, bool) {
	l := &loose{b}
	h := api.Hard{Term: l.number(), Vote: l.number()}
	if !plainValidHard(h) || plainHard(h) != b {
		return api.Hard{}, false
	}
	return h, true
}

func plainSnapOf(b string) (api.Snap, bool) {
	l := &loose{b}
	s := api.Snap{Index: l.number(), Term: l.number()}
	s.Group.Voters = l.list()
	s.Group.Learners = l.list()
	l.number()
	s.Data = []byte(l.rest)
	if !plainValidSnap(s) || plainSnap(s) != b {
		return api.Snap{}, false
	}
	return s, true
}

// op is an operation on a disk.
type op struct {
	what, name, to, text string
}

func (o op) do(d *disk.Disk) api.Errno {
	switch o.what {
	case "append":
		return d.Append(o.name, []byte(o.text))
	case "sync":
		return d.Sync(o.name)
	case "rename":
		return d.Rename(o.name, o.to)
	}
	return d.Unlink(o.name)
}

// writing are the operations that write text as a file; left tells whether there is a file of the new name.
func writing(name, text string, left bool) []op {
	fresh := name + ".new"
	ops := []op{{"append", fresh, "", text}, {"sync", fresh, "", ""}, {"rename", fresh, name, ""}}
	if left {
		ops = append([]op{{"unlink", fresh, "", ""}}, ops...)
	}
	return ops
}

func newDisk(t *testing.T) *disk.Disk {
	t.Helper()
	d, e := disk.New(room)
	must(t, e)
	return d
}

// diskOf has these files, all synced.
func diskOf(t *testing.T, files map[string]string) *disk.Disk {
	t.Helper()
	d := newDisk(t)
	for name, b := range files {
		must(t, d.Append(name, []byte(b)))
		must(t, d.Sync(name))
	}
	return d
}

func filesOf(t *testing.T, d *disk.Disk) map[string]string {
	t.Helper()
	files := map[string]string{}
	for _, name := range d.Names() {
		b, e := d.Read(name)
		must(t, e)
		files[name] = string(b)
	}
	return files
}

func wantFiles(t *testing.T, what string, d *disk.Disk, asked map[string]string) {
	t.Helper()
	if got := filesOf(t, d); !maps.Equal(got, asked) {
		t.Fatalf("%s: files %.60q, want %.60q", what, got, asked)
	}
}

func powerOff(t *testing.T, d *disk.Disk) {
	t.Helper()
	must(t, d.Arm(0))
	want(t, "the power", d.Sync("a"), api.ErrOff)
}

// sameDisk checks that both disks are the same, and also what is synced of them; they must not be used any more.
func sameDisk(t *testing.T, what string, a, b *disk.Disk) {
	t.Helper()
	if a.Off() != b.Off() {
		t.Fatalf("%s: Off is %v, want %v", what, a.Off(), b.Off())
	}
	if !a.Off() {
		wantFiles(t, what, a, filesOf(t, b))
	}
	a.Crash(nil)
	b.Crash(nil)
	wantFiles(t, what+", a crash", a, filesOf(t, b))
}

// kept is one of the two things that are kept.
type kept[T any] struct {
	file  string
	save  func(*disk.Disk, T) api.Errno
	load  func(*disk.Disk) (T, api.Errno)
	plain func(T) string         // the content of its record
	of    func(string) (T, bool) // what has that content
	good  []T                    // valid ones, all different, and none the zero one
	wrong []T
}

func hards() kept[api.Hard] {
	return kept[api.Hard]{"hard", SaveHard, LoadHard, plainHard, plainHardOf, goodHards(), wrongHards()}
}

func snaps() kept[api.Snap] {
	return kept[api.Snap]{"snap", SaveSnap, LoadSnap, plainSnap, plainSnapOf, goodSnaps(), wrongSnaps()}
}

// text is what the file of v has.
func (k kept[T]) text(v T) string { return framed(k.plain(v)) }

// wantLoad checks what is loaded. Values are compared by their encodings, because nil and empty lists are equivalent.
func (k kept[T]) wantLoad(t *testing.T, what string, d *disk.Disk, v T, asked api.Errno) {
	t.Helper()
	got, e := k.load(d)
	if e != asked || k.plain(got) != k.plain(v) {
		t.Fatalf("%s: loaded %.60q, error %d; want %.60q, error %d", what, k.plain(got), e, k.plain(v), asked)
	}
}

// wantRead checks what is loaded of a disk whose file has this text: the value that was encoded so, or ErrForm.
func (k kept[T]) wantRead(t *testing.T, what, text string) {
	t.Helper()
	d := diskOf(t, map[string]string{k.file: text})
	var asked T
	e := api.ErrForm
	// Held against a new frame of what stands behind the head, so that nothing is asked of a second decoder of records.
	if len(text) >= 8 && framed(text[8:]) == text {
		if v, ok := k.of(text[8:]); ok {
			asked, e = v, api.OK
		}
	}
	k.wantLoad(t, what, d, asked, e)
}
