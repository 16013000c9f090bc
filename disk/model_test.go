package disk

import (
	"math/rand"
	"slices"
	"strings"
	"testing"

	"jetway/api"
)

// plain follows the document's words by another means than the package does: files are a list in order of names, their bytes are two strings, and a schedule is the number of a modification.
type plain struct {
	room          int
	files         []plainFile
	off           bool
	failAt, armAt int // of counted, powered; 0: none
	counted       int // modifications that did not return ErrOff
	powered       int // modifications while the power was on
}

type plainFile struct{ name, synced, rest string }

func (p *plain) find(name string) int {
	return slices.IndexFunc(p.files, func(f plainFile) bool { return f.name == name })
}

func (p *plain) size() int {
	n := 0
	for _, f := range p.files {
		n += len(f.synced + f.rest)
	}
	return n
}

func (p *plain) fail(n int) { p.failAt = p.counted + n + 1 }
func (p *plain) arm(n int)  { p.armAt = p.powered + n + 1 }

func (p *plain) begin() api.Errno {
	if p.off {
		return api.ErrOff
	}
	p.powered++
	if p.powered == p.armAt {
		p.off = true
		return api.ErrOff
	}
	p.counted++
	if p.counted == p.failAt {
		return api.ErrIo
	}
	return api.OK
}

func (p *plain) append(name, b string) api.Errno {
	if e := p.begin(); e != api.OK {
		return e
	}
	if p.size()+len(b) > p.room {
		return api.ErrFull
	}
	if p.find(name) < 0 {
		p.files = append(p.files, plainFile{name: name})
		slices.SortFunc(p.files, func(x, y plainFile) int { return strings.Compare(x.name, y.name) })
	}
	p.files[p.find(name)].rest += b
	return api.OK
}

func (p *plain) sync(name string) api.Errno {
	if e := p.begin(); e != api.OK {
		return e
	}
	at := p.find(name)
	if at < 0 {
		return api.ErrNone
	}
	f := p.files[at]
	p.files[at] = plainFile{f.name, f.synced + f.rest, ""}
	return api.OK
}

func (p *plain) rename(from, to string) api.Errno {
	if e := p.begin(); e != api.OK {
		return e
	}
	if p.find(from) < 0 {
		return api.ErrNone
	}
	if from != to {
		p.files = slices.DeleteFunc(p.files, func(f plainFile) bool { return f.name == to })
	}
	p.files[p.find(from)].name = to
	slices.SortFunc(p.files, func(x, y plainFile) int { return strings.Compare(x.name, y.name) })
	return api.OK
}

func (p *plain) unlink(name string) api.Errno {
	if e := p.begin(); e != api.OK {
		return e
	}
	at := p.find(name)
	if at < 0 {
		return api.ErrNone
	}
	p.files = slices.Delete(p.files, at, at+1)
	return api.OK
}

func (p *plain) crash(keep []int) {
	for i, f := range p.files {
		for n := 0; i < len(keep) && n < keep[i] && n < len(f.rest); n++ {
			f.synced += f.rest[n : n+1]
		}
		p.files[i] = plainFile{f.name, f.synced, ""}
	}
	*p = plain{room: p.room, files: p.files}
}

// sameAsPlain holds all that can be seen of d against p.
func sameAsPlain(t *testing.T, d *Disk, p *plain) {
	t.Helper()
	if d.Off() != p.off || d.Size() != p.size() || d.Size() > p.room {
		t.Fatalf("Off %v, Size %d; want %v, %d", d.Off(), d.Size(), p.off, p.size())
	}
	names := d.Names()
	if len(names) != len(p.files) {
		t.Fatalf("Names: %q, want %v", names, p.files)
	}
	for i, f := range p.files {
		b, e := d.Read(f.name)
		if names[i] != f.name || p.off != (e == api.ErrOff) {
			t.Fatalf("the file %q: error %d; want %q", names[i], e, f.name)
		}
		if !p.off && (e != api.OK || string(b) != f.synced+f.rest) || p.off && len(b) != 0 {
			t.Fatalf("%q has %q, error %d; want %q", f.name, b, e, f.synced+f.rest)
		}
	}
}

// script draws what is done to a disk.
type script struct {
	*rand.Rand
}

func (s script) name() string { return []string{"a", "b", "c.new", "d-1", "e"}[s.Intn(5)] }

func (s script) text() string {
	b := make([]byte, s.Intn(6))
	for i := range b {
		b[i] = byte(s.Intn(256))
	}
	return string(b)
}

func (s script) keep() []int {
	out := make([]int, s.Intn(7))
	for i := range out {
		out[i] = s.Intn(12) - 3
	}
	return out
}

// step does one thing to both, and is what they answer.
func (s script) step(d *Disk, p *plain) (what string, got, asked api.Errno) {
	name, other := s.name(), s.name()
	switch s.Intn(16) {
	case 0, 1, 2, 3, 4:
		b := s.text()
		return "Append", d.Append(name, []byte(b)), p.append(name, b)
	case 5, 6, 7:
		return "Sync", d.Sync(name), p.sync(name)
	case 8, 9:
		return "Rename", d.Rename(name, other), p.rename(name, other)
	case 10, 11:
		return "Unlink", d.Unlink(name), p.unlink(name)
	case 12:
		n := s.Intn(8)
		p.fail(n)
		return "Fail", d.Fail(n), api.OK
	case 13:
		n := s.Intn(12)
		p.arm(n)
		return "Arm", d.Arm(n), api.OK
	case 14:
		return "a wrong name", d.Rename(name, other+"_"), api.ErrArg
	}
	keep := s.keep()
	p.crash(keep)
	d.Crash(keep)
	return "Crash", api.OK, api.OK
}

// P4.1 to P4.5, along many scripts

func TestDiskIsAsTheWordsSay(t *testing.T) {
	seen := map[string]int{}
	for seed := range 2000 {
		s := script{rand.New(rand.NewSource(int64(seed)))}
		room := 1 + s.Intn(25)
		d, p := newDisk(t, room), &plain{room: room}
		for at := range 80 {
			what, got, asked := s.step(d, p)
			if got != asked {
				t.Fatalf("seed %d, step %d, %s: error %d, want %d", seed, at, what, got, asked)
			}
			seen[what+" "+string(rune('0'+got))]++
			sameAsPlain(t, d, p)
		}
	}
	// So that the scripts do not leave out an error that a call may return.
	for what, codes := range map[string]string{"Append": "0345", "Sync": "0245", "Rename": "0245", "Unlink": "0245"} {
		for _, code := range codes {
			if seen[what+" "+string(code)] < 100 {
				t.Errorf("%s returned the error %c too seldom: %v", what, code, seen)
			}
		}
	}
}

// P4.5

// theorem is a disk, and what the theorem says of its files.
type theorem struct {
	*Disk
	synced map[string]string // what each file had when it was last synced, unless it was renamed or unlinked since
	had    map[string]string // what each file had when the power was last on
}

// step modifies the disk, or schedules faults.
func (h *theorem) step(s script) {
	name, other := s.name(), s.name()
	switch s.Intn(7) {
	case 0, 1, 2:
		h.Append(name, []byte(s.text()))
	case 3:
		if h.Sync(name) == api.OK {
			h.synced[name] = h.had[name]
		}
	case 4:
		if h.Rename(name, other) == api.OK && name != other {
			delete(h.synced, name)
			delete(h.synced, other)
		}
	case 5:
		if h.Unlink(name) == api.OK {
			delete(h.synced, name)
		}
	case 6:
		h.Arm(s.Intn(10))
		h.Fail(s.Intn(10))
	}
}

// crash holds what a crash leaves against the theorem.
func (h *theorem) crash(t *testing.T, keep []int) {
	t.Helper()
	h.Crash(keep)
	now := content(t, h.Disk)
	if len(now) != len(h.had) {
		t.Fatalf("a crash left %q of %q", now, h.had)
	}
	for name, b := range now {
		if !strings.HasPrefix(b, h.synced[name]) || !strings.HasPrefix(h.had[name], b) {
			t.Fatalf("%q has %q after a crash, synced %q, before %q", name, b, h.synced[name], h.had[name])
		}
	}
	h.synced = now
}

func TestWhatWasSyncedOutlastsACrash(t *testing.T) {
	for seed := range 2000 {
		s := script{rand.New(rand.NewSource(int64(seed)))}
		h := &theorem{newDisk(t, 40), map[string]string{}, map[string]string{}}
		for range 60 {
			if s.Intn(12) == 0 {
				h.crash(t, s.keep())
			} else {
				h.step(s)
			}
			if h.Size() > 40 {
				t.Fatalf("seed %d: Size %d", seed, h.Size())
			}
			if !h.Off() {
				h.had = content(t, h.Disk)
			}
		}
	}
}
