package keep

import (
	"math/rand"
	"testing"

	"jetway/api"
	"jetway/disk"
)

// P7.4: scripts of saves of both things on one disk, with faults and crashes.

// history is what was saved of one thing: what was saved last with OK, and what was being saved since, if anything.
type history[T any] struct {
	kept[T]
	last  T
	begun []T
}

// request saves a value, valid or not, and notes what came of it.
func (h *history[T]) request(t *testing.T, r *rand.Rand, d *disk.Disk) {
	t.Helper()
	if r.Intn(5) == 0 {
		want(t, "a value that is not valid", h.save(d, h.wrong[r.Intn(len(h.wrong))]), api.ErrArg)
		return
	}
	v := h.good[r.Intn(len(h.good))]
	switch e := h.save(d, v); e {
	case api.OK:
		h.last, h.begun = v, nil
	case api.ErrIo, api.ErrOff, api.ErrFull:
		h.begun = append(h.begun, v)
	default:
		t.Fatalf("error %d", e)
	}
}

// check loads, and asks whether that is what was saved last, or was being saved.
func (h *history[T]) check(t *testing.T, seed int64, d *disk.Disk) {
	t.Helper()
	got, e := h.load(d)
	if e != api.OK {
		t.Fatalf("seed %d: %s: error %d", seed, h.file, e)
	}
	for _, v := range append(h.begun, h.last) {
		if h.plain(v) == h.plain(got) {
			h.last, h.begun = v, nil
			return
		}
	}
	t.Fatalf("seed %d: %s: loaded %.60q, which is neither what was saved last, %.60q, nor was being saved", seed, h.file, h.plain(got), h.plain(h.last))
}

func TestWhatWasSavedIsLoadedBehindAnyCrash(t *testing.T) {
	crashes := 0
	for seed := range int64(80) {
		r := rand.New(rand.NewSource(seed))
		d, e := disk.New(200000)
		must(t, e)
		hard := &history[api.Hard]{kept: hards()}
		snap := &history[api.Snap]{kept: snaps()}
		for range 10 {
			must(t, d.Arm(r.Intn(30)))
			for i := 0; i < 12 && !d.Off(); i++ {
				if r.Intn(4) == 0 {
					must(t, d.Fail(r.Intn(6)))
				}
				if r.Intn(3) > 0 {
					hard.request(t, r, d)
				} else {
					snap.request(t, r, d)
				}
				if !d.Off() {
					hard.check(t, seed, d)
					snap.check(t, seed, d)
				}
			}
			if d.Off() {
				crashes++
			}
			d.Crash([]int{r.Intn(20), r.Intn(20), r.Intn(20), r.Intn(70000)})
			hard.check(t, seed, d)
			snap.check(t, seed, d)
		}
	}
	if crashes < 200 {
		t.Errorf("the power went only %d times", crashes)
	}
}
