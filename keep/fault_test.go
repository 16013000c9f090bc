package keep

import (
	"fmt"
	"math"
	"slices"
	"strings"
	"testing"

	"jetway/api"
	"jetway/disk"
)

// P7.1 and P7.2: which operations a save does, in which order, and that it ends at the first error of the disk.

// state is a disk ahead of a save: what was saved, if anything, and what was left under the new name, if anything.
type state[T any] struct {
	old  []T      // none, or one
	left []string // none, or one
}

// states are those of which a save is to be made.
func (k kept[T]) states() []state[T] {
	var l []state[T]
	for _, old := range [][]T{nil, k.good[:1], k.good[2:3]} {
		for _, left := range [][]string{nil, {""}, {"left"}, {k.text(k.good[3])}, {k.text(k.good[1])[:5]}, {k.text(k.good[1])}, {strings.Repeat("x", 500)}} {
			l = append(l, state[T]{old, left})
		}
	}
	return l
}

// disk is one of that state. What was left is synced but for its last three bytes.
func (s state[T]) disk(t *testing.T, k kept[T]) *disk.Disk {
	t.Helper()
	d := diskOf(t, map[string]string{"other": "other", "wal-00000001": ""})
	for _, v := range s.old {
		must(t, k.save(d, v))
	}
	for _, left := range s.left {
		at := max(0, len(left)-3)
		must(t, d.Append(k.file+".new", []byte(left[:at])))
		must(t, d.Sync(k.file+".new"))
		must(t, d.Append(k.file+".new", []byte(left[at:])))
	}
	return d
}

// loaded is what is loaded if nothing more is saved.
func (s state[T]) loaded() T {
	var v T
	for _, old := range s.old {
		v = old
	}
	return v
}

func (s state[T]) String() string {
	return fmt.Sprintf("%d saved, left %.20q", len(s.old), s.left)
}

func schedule(t *testing.T, d *disk.Disk, fault api.Errno, n int) {
	t.Helper()
	if fault == api.ErrIo {
		must(t, d.Fail(n))
	} else {
		must(t, d.Arm(n))
	}
}

func TestEachOperationFails(t *testing.T) {
	eachOperationFails(t, hards())
	eachOperationFails(t, snaps())
}

func eachOperationFails[T any](t *testing.T, k kept[T]) {
	v := k.good[1]
	for _, s := range k.states() {
		ops := writing(k.file, k.text(v), len(s.left) > 0)
		for n := range len(ops) + 1 {
			for _, fault := range []api.Errno{api.ErrIo, api.ErrOff} {
				what := fmt.Sprintf("%s, %v, error %d at operation %d", k.file, s, fault, n)
				d, twin := s.disk(t, k), s.disk(t, k)
				schedule(t, d, fault, n)
				e := k.save(d, v)
				for _, o := range ops[:n] {
					must(t, o.do(twin))
				}
				loaded := s.loaded()
				if n == len(ops) {
					want(t, what, e, api.OK)
					loaded = v
				} else {
					want(t, what, e, fault)
				}
				if n < len(ops) && fault == api.ErrOff {
					powerOff(t, twin)
				} else {
					k.wantLoad(t, what, d, loaded, api.OK)
				}
				sameDisk(t, what, d, twin)
				// A crash has come meanwhile.
				k.wantLoad(t, what+", a crash", d, loaded, api.OK)
				must(t, k.save(d, k.good[4]))
				k.wantLoad(t, what+", saved again", d, k.good[4], api.OK)
			}
		}
	}
}

// Both a fault and a power loss: the power goes ahead of the fault, or behind it.
func TestFaultAndPowerLoss(t *testing.T) {
	faultAndPowerLoss(t, hards())
	faultAndPowerLoss(t, snaps())
}

func faultAndPowerLoss[T any](t *testing.T, k kept[T]) {
	for fail := range 5 {
		for arm := range 5 {
			d := newDisk(t)
			must(t, d.Fail(fail))
			must(t, d.Arm(arm))
			asked := api.OK
			if arm <= fail && arm < 3 {
				asked = api.ErrOff
			} else if fail < 3 {
				asked = api.ErrIo
			}
			want(t, fmt.Sprint(k.file, " ", fail, " ", arm), k.save(d, k.good[0]), asked)
		}
	}
}

func TestSaveWithoutPower(t *testing.T) {
	saveWithoutPower(t, hards())
	saveWithoutPower(t, snaps())
}

func saveWithoutPower[T any](t *testing.T, k kept[T]) {
	for _, s := range k.states() {
		d := s.disk(t, k)
		before := filesOf(t, d)
		powerOff(t, d)
		want(t, s.String(), k.save(d, k.good[1]), api.ErrOff)
		d.Crash([]int{math.MaxInt, math.MaxInt, math.MaxInt, math.MaxInt})
		wantFiles(t, s.String(), d, before)
		k.wantLoad(t, s.String(), d, s.loaded(), api.OK)
	}
}

func TestDiskWithoutRoom(t *testing.T) {
	withoutRoom(t, hards())
	withoutRoom(t, snaps())
}

// What was left gives its room to what is saved, but what was saved does not: it is there until the end.
func withoutRoom[T any](t *testing.T, k kept[T]) {
	v := k.good[1]
	need := len(k.text(v))
	for _, s := range k.states() {
		left := len(strings.Join(s.left, ""))
		for free := range need + 3 {
			what := fmt.Sprintf("%s, %v, %d bytes free", k.file, s, free)
			d := s.disk(t, k)
			must(t, d.Append("fill", make([]byte, room-d.Size()-free)))
			before := filesOf(t, d)
			e := k.save(d, v)
			if need <= free+left {
				want(t, what, e, api.OK)
				k.wantLoad(t, what, d, v, api.OK)
				continue
			}
			want(t, what, e, api.ErrFull)
			k.wantLoad(t, what, d, s.loaded(), api.OK)
			delete(before, k.file+".new")
			wantFiles(t, what, d, before)
		}
	}
}

// P7.4

// keeps are what Crash may be given: of each file nothing of what was not synced, a part, all.
func keeps(most int) [][]int {
	l := [][]int{nil, {-1, -1, -1, -1}, {math.MaxInt, math.MaxInt, math.MaxInt, math.MaxInt}}
	for n := range most + 2 {
		l = append(l, []int{n, n, n, n})
	}
	return l
}

func TestThePowerGoesAtEachOperation(t *testing.T) {
	powerGoes(t, hards())
	powerGoes(t, snaps())
}

func powerGoes[T any](t *testing.T, k kept[T]) {
	v := k.good[1]
	text := k.text(v)
	for _, s := range k.states() {
		ops := writing(k.file, text, len(s.left) > 0)
		for n := range len(ops) + 1 {
			for _, keep := range keeps(min(len(text), 40)) {
				what := fmt.Sprintf("%s, %v, the power goes at operation %d, a crash keeps %v", k.file, s, n, keep)
				d := s.disk(t, k)
				must(t, d.Arm(n))
				e := k.save(d, v)
				asked, loaded := api.ErrOff, s.loaded()
				if n == len(ops) {
					asked, loaded = api.OK, v
				}
				want(t, what, e, asked)
				d.Crash(keep)
				k.wantLoad(t, what, d, loaded, api.OK)
				must(t, k.save(d, k.good[4]))
				d.Crash(nil)
				k.wantLoad(t, what+", saved again", d, k.good[4], api.OK)
				if slices.Contains(d.Names(), k.file+".new") {
					t.Fatalf("%s: there is a new file", what)
				}
			}
		}
	}
}
