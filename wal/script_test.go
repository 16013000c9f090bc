package wal

import (
	"fmt"
	"maps"
	"math/rand"
	"testing"

	"jetway/api"
	"jetway/disk"
)

// script draws what is done to a Wal.
type script struct{ *rand.Rand }

func (s script) entry(index int) api.Entry {
	data := make([]byte, s.Intn(12))
	s.Read(data)
	return api.Entry{Index: index, Term: s.Intn(300), Kind: s.Intn(8), Data: data}
}

// entries follow last, but for some that are out of order or not valid.
func (s script) entries(last int) []api.Entry {
	var l []api.Entry
	for i := range s.Intn(6) {
		l = append(l, s.entry(last+1+i))
	}
	if len(l) > 0 && s.Intn(8) == 0 {
		at := s.Intn(len(l))
		switch s.Intn(4) {
		case 0:
			l[at].Index += s.Intn(3) - 1
		case 1:
			l[at].Kind = 8 - 9*s.Intn(2)
		case 2:
			l[at].Term = -1
		case 3:
			l[at].Data = make([]byte, 4097)
		}
	}
	return l
}

// call draws a method and its arguments, many of them near the ends of the log.
func (s script) call(l plainLog) call {
	near := func() int {
		switch s.Intn(3) {
		case 0:
			return l.base + s.Intn(4) - 1
		case 1:
			return l.last() + s.Intn(4) - 1
		}
		return l.base + s.Intn(len(l.entries)+2)
	}
	switch s.Intn(16) {
	case 0, 1, 2, 3, 4, 5, 6:
		return appendCall(s.entries(l.last()))
	case 7, 8:
		return cutCall(near())
	case 9:
		return resetCall([]int{0, 1, 2, 9, 300, 70000, top - 30, top, top + 1, near(), near(), near()}[s.Intn(12)])
	case 10, 11, 12:
		return syncCall()
	}
	return dropCall(near())
}

func (s script) keep() []int {
	switch s.Intn(4) {
	case 0:
		return nil
	case 1:
		return []int{1000, 1000, 1000, 1000, 1000, 1000, 1000, 1000, 1000, 1000, 1000, 1000, 1000, 1000, 1000, 1000, 1000, 1000}
	}
	out := make([]int, s.Intn(20))
	for i := range out {
		out[i] = s.Intn(90) - 5
	}
	return out
}

// pair is a Wal on its disk, and the plain one on a disk on which its operations are done.
type pair struct {
	d, twin *disk.Disk
	w       *Wal
	p       *plainWal
	broken  bool
	seen    map[string]int
}

// do does operations on the twin, up to the first error.
func (x *pair) do(ops []op) api.Errno {
	for _, o := range ops {
		if e := o.do(x.twin); e != api.OK {
			return e
		}
	}
	return api.OK
}

func (x *pair) call(c call) error {
	got := c.wal(x.w)
	asked := api.ErrBroken
	if !x.broken {
		var ops []op
		if ops, asked = c.plain(x.p); asked == api.OK {
			asked = x.do(ops)
			x.broken = asked != api.OK
		}
	}
	x.seen[fmt.Sprint(c.what, " ", got)]++
	if got != asked {
		return fmt.Errorf("%s: error %d, want %d", c.what, got, asked)
	}
	return x.compare(c.what)
}

// open opens both on what is there; it is false if that has failed, as it was to fail.
func (x *pair) open(limit int) (bool, error) {
	w, got := Open(x.d, limit)
	asked := api.ErrOff
	if !x.twin.Off() {
		var ops []op
		files, err := readAll(x.twin)
		if err != nil {
			return false, err
		}
		x.p, ops = plainOpen(files, limit)
		asked = x.do(ops)
	}
	x.seen[fmt.Sprint("Open ", got)]++
	if got != asked || (w != nil) != (got == api.OK) {
		return false, fmt.Errorf("Open: %v, error %d, want %d", w, got, asked)
	}
	if w == nil {
		return false, nil
	}
	x.w, x.broken = w, false
	return true, x.compare("Open")
}

func readAll(d *disk.Disk) (map[string]string, error) {
	out := map[string]string{}
	for _, name := range d.Names() {
		b, e := d.Read(name)
		if e != api.OK {
			return nil, fmt.Errorf("Read(%q): error %d", name, e)
		}
		out[name] = string(b)
	}
	return out, nil
}

// compare holds the log and the disk against the plain ones.
func (x *pair) compare(what string) error {
	first, last, l := x.p.log.base+1, x.p.log.last(), x.p.log.entries
	if x.broken {
		first, last, l = 0, 0, nil
	}
	if x.w.First() != first || x.w.Last() != last || !sameEntries(x.w.Get(first, 1000), l) {
		return fmt.Errorf("%s: the log is from %d to %d, want from %d to %d", what, x.w.First(), x.w.Last(), first, last)
	}
	if x.d.Off() != x.twin.Off() {
		return fmt.Errorf("%s: Off is %v, want %v", what, x.d.Off(), x.twin.Off())
	}
	if x.d.Off() {
		return nil
	}
	got, err := readAll(x.d)
	if err != nil {
		return err
	}
	asked, err := readAll(x.twin)
	if err != nil {
		return err
	}
	if !maps.Equal(got, asked) {
		return fmt.Errorf("%s: the disk has %q, want %q", what, got, asked)
	}
	return nil
}

// fault schedules the same fault on both disks.
func (x *pair) fault(s script) {
	n := s.Intn(10)
	if s.Intn(2) == 0 {
		x.d.Fail(n)
		x.twin.Fail(n)
	} else {
		x.d.Arm(n)
		x.twin.Arm(n)
	}
}

func (x *pair) crash(s script) {
	keep := s.keep()
	x.d.Crash(keep)
	x.twin.Crash(keep)
}

// reopen opens both until that succeeds.
func (x *pair) reopen(s script, limit int) error {
	for {
		if s.Intn(2) == 0 || x.d.Off() {
			x.crash(s)
		}
		if s.Intn(3) == 0 {
			x.fault(s)
		}
		full := x.seen["Open 3"]
		ok, err := x.open(limit)
		if ok || err != nil {
			return err
		}
		if x.seen["Open 3"] > full {
			x.empty()
		}
	}
}

// empty removes all files, so that a disk that is full does not keep a log from being opened for ever.
func (x *pair) empty() {
	for _, name := range x.twin.Names() {
		x.d.Unlink(name)
		x.twin.Unlink(name)
	}
}

func (x *pair) run(s script) error {
	limit := 32 + s.Intn(200)
	if err := x.reopen(s, limit); err != nil {
		return err
	}
	for range 60 {
		if s.Intn(15) == 0 {
			x.fault(s)
		}
		if x.broken || s.Intn(20) == 0 {
			if err := x.reopen(s, limit); err != nil {
				return err
			}
		}
		if err := x.call(s.call(x.p.log)); err != nil {
			return err
		}
	}
	return nil
}

// newPair is one whose disks have so much room, and these files.
func newPair(room int, files map[string]string, seen map[string]int) *pair {
	x := &pair{seen: seen}
	x.d, _ = disk.New(room)
	x.twin, _ = disk.New(room)
	for name, b := range files {
		x.d.Append(name, []byte(b))
		x.twin.Append(name, []byte(b))
	}
	return x
}

// P6.1 to P6.5, along many scripts with faults and crashes

func TestWalIsAsTheWordsSay(t *testing.T) {
	seen := map[string]int{}
	for seed := range int64(1500) {
		s := script{rand.New(rand.NewSource(seed))}
		if err := newPair(50+s.Intn(800), nil, seen).run(s); err != nil {
			t.Fatalf("seed %d: %v", seed, err)
		}
	}
	// So that the scripts do not leave out an error that a call may return.
	for what, codes := range map[string][]api.Errno{
		"Open": {0, 3, 4, 5}, "Append": {0, 1, 3, 4, 5, 7}, "Cut": {0, 3, 4, 5, 7}, "Reset": {0, 1, 3, 4, 5},
		"Sync": {0, 4, 5}, "Drop": {0, 4, 5, 7},
	} {
		for _, code := range codes {
			if seen[fmt.Sprint(what, " ", code)] < 30 {
				t.Errorf("%s returned the error %d too seldom: %v", what, code, seen)
			}
		}
	}
}

// record draws a record that mostly fits behind the log.
func (s script) record(l plainLog, number int) string {
	near := func() int { return l.base + s.Intn(len(l.entries)+4) - 1 }
	switch s.Intn(24) {
	case 0, 1:
		return cut(max(0, near()))
	case 2:
		return reset(max(0, near()))
	case 3:
		return head(number, l.last()+1)
	case 4:
		return entry(s.entry(max(0, near())))
	case 5:
		return rec(nums(s.Intn(5), s.Intn(9), s.Intn(9)))
	case 6:
		return string(s.entry(1).Data)
	}
	return entry(s.entry(l.last() + 1))
}

// files draws a log in segments, in which something may be wrong.
func (s script) files() map[string]string {
	files := map[string]string{}
	number := 1 + s.Intn(3)
	for range s.Intn(6) {
		name := seg(number)
		l, _, _ := recoverable(files)
		next := l.last() + 1
		if len(files) == 0 || s.Intn(20) == 0 {
			next = s.Intn(30)
		}
		files[name] = head(number+s.Intn(20)/19, next)
		for range s.Intn(9) {
			l, _, _ = recoverable(files)
			files[name] += s.record(l, number)
		}
		if s.Intn(10) == 0 {
			files[name] = files[name][:s.Intn(len(files[name]))]
		}
		number += 1 + s.Intn(15)/14
	}
	if s.Intn(5) == 0 {
		files["wal.new"] = head(1, 1)
	}
	return files
}

func TestOpenIsAsTheWordsSay(t *testing.T) {
	for seed := range int64(1200) {
		s := script{rand.New(rand.NewSource(seed))}
		files := s.files()
		x := newPair(room, files, map[string]int{})
		if ok, err := x.open(100); !ok || err != nil {
			t.Fatalf("seed %d: %v, %v: %q", seed, ok, err, files)
		}
		// What is repaired needs no other repair, and can be used.
		if ok, err := x.open(100); !ok || err != nil || len(x.d.Names()) != len(x.p.files) {
			t.Fatalf("seed %d, again: %v, %v: %q", seed, ok, err, files)
		}
		x = newPair(room, files, map[string]int{})
		if err := x.run(s); err != nil {
			t.Fatalf("seed %d: %v: %q", seed, err, files)
		}
	}
}
