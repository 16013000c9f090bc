package progress

import (
	"math"
	"testing"
)

// P11.3 and P11.4

var noIndex = []int{math.MinInt, -top, -2, -1, top, top + 1, math.MaxInt}

func TestWrongAcked(t *testing.T) {
	for _, h := range all() {
		for _, i := range noIndex {
			wantUnchanged(t, h, acked(i), nothing)
		}
	}
}

func TestAckedInProbe(t *testing.T) {
	wantScenes(t, []scene{
		{"nothing", start(5, 2), acked(0), nothing, view{Stream, 0, 5, 0, true}},
		{"less than was sent", start(5, 2), acked(3), yes, view{Stream, 3, 5, 0, true}},
		{"all that was sent", start(5, 2), acked(4), yes, view{Stream, 4, 5, 0, true}},
		{"next", start(5, 2), acked(5), yes, view{Stream, 5, 6, 0, true}},
		{"more than next", start(5, 2), acked(9), yes, view{Stream, 9, 10, 0, true}},
		{"the greatest", start(5, 2), acked(top - 1), yes, view{Stream, top - 1, top, 0, true}},
		{"one that waits", waiting(0, 5, 2), acked(4), yes, view{Stream, 4, 5, 0, true}},
		{"nothing, and waits", waiting(0, 5, 2), acked(0), nothing, view{Stream, 0, 5, 0, true}},
		{"as much as before", probing(4, 9, 2), acked(4), nothing, view{Stream, 4, 9, 0, true}},
		{"less than before", probing(4, 9, 2), acked(3), nothing, view{Stream, 4, 9, 0, true}},
		{"more than before", waiting(4, 9, 2), acked(5), yes, view{Stream, 5, 9, 0, true}},
		{"all there is", probing(top-1, top, 1), acked(top - 1), nothing, view{Stream, top - 1, top, 0, true}},
		{"a next at the end", start(top, 1), acked(1), yes, view{Stream, 1, top, 0, true}},
		{"the first one", start(1, 1), acked(1), yes, view{Stream, 1, 2, 0, true}},
	})
}

func TestAckedInStream(t *testing.T) {
	wantScenes(t, []scene{
		{"less than before", streaming(4, 5, 3, 6, 8), acked(3), nothing, view{Stream, 4, 9, 2, true}},
		{"as much as before", streaming(4, 5, 3, 6, 8), acked(4), nothing, view{Stream, 4, 9, 2, true}},
		{"a part of the first", streaming(4, 5, 3, 6, 8), acked(5), yes, view{Stream, 5, 9, 2, true}},
		{"the first", streaming(4, 5, 3, 6, 8), acked(6), yes, view{Stream, 6, 9, 1, true}},
		{"a part of the last", streaming(4, 5, 3, 6, 8), acked(7), yes, view{Stream, 7, 9, 1, true}},
		{"all", streaming(4, 5, 3, 6, 8), acked(8), yes, view{Stream, 8, 9, 0, true}},
		{"next", streaming(4, 5, 3, 6, 8), acked(9), yes, view{Stream, 9, 10, 0, true}},
		{"more than next", streaming(4, 5, 3, 6, 8), acked(20), yes, view{Stream, 20, 21, 0, true}},
		{"the greatest", streaming(4, 5, 3, 6, 8), acked(top - 1), yes, view{Stream, top - 1, top, 0, true}},
		{"the middle of three", streaming(4, 5, 3, 6, 8, 9), acked(8), yes, view{Stream, 8, 10, 1, true}},
		{"the first, a full window", streaming(4, 5, 2, 6, 8), acked(6), yes, view{Stream, 6, 9, 1, true}},
		{"a part of the first, a full window", streaming(4, 5, 2, 6, 8), acked(5), yes, view{Stream, 5, 9, 2, false}},
		{"none in flight", streaming(4, 9, 2), acked(6), yes, view{Stream, 6, 9, 0, true}},
		{"none in flight, as much as before", streaming(4, 9, 2), acked(4), nothing, view{Stream, 4, 9, 0, true}},
		{"a full window of 64", streaming(4, 5, 64, flight(5, 64)...), acked(5 + 62*63/2), yes, view{Stream, 5 + 62*63/2, 5 + 63*64/2 + 1, 1, true}},
		{"at the end", streaming(top-4, top-3, 2, top-3, top-1), acked(top - 2), yes, view{Stream, top - 2, top, 1, true}},
		{"all there is", streaming(top-4, top-3, 2, top-3, top-1), acked(top - 1), yes, view{Stream, top - 1, top, 0, true}},
	})
	for _, h := range []history{streaming(4, 5, 2), streaming(4, 5, 2, 6), streaming(4, 5, 2, 6, 8), streaming(4, 9, 64, 12)} {
		for _, i := range []int{0, 1, 3, 4} {
			wantUnchanged(t, h, acked(i), nothing)
		}
	}
}

func TestAckedInSnap(t *testing.T) {
	wantScenes(t, []scene{
		{"as much as before", snapping(4, 5, 2, 9), acked(4), nothing, view{Snap, 4, 5, 0, false}},
		{"more than before", snapping(4, 5, 2, 9), acked(5), yes, view{Snap, 5, 6, 0, false}},
		{"below the snapshot", snapping(4, 5, 2, 9), acked(8), yes, view{Snap, 8, 9, 0, false}},
		{"at the snapshot", snapping(4, 5, 2, 9), acked(9), yes, view{Probe, 9, 10, 0, true}},
		{"above the snapshot", snapping(4, 5, 2, 9), acked(10), yes, view{Probe, 10, 11, 0, true}},
		{"the greatest", snapping(4, 5, 2, 9), acked(top - 1), yes, view{Probe, top - 1, top, 0, true}},
		{"a snapshot below next", snapping(4, 20, 2, 9), acked(9), yes, view{Probe, 9, 20, 0, true}},
		{"below a snapshot below next", snapping(4, 20, 2, 9), acked(8), yes, view{Snap, 8, 20, 0, false}},
		{"a snapshot at the match", snapping(4, 9, 2, 4), acked(4), nothing, view{Probe, 4, 9, 0, true}},
		{"below a snapshot at the match", snapping(4, 9, 2, 4), acked(3), nothing, view{Snap, 4, 9, 0, false}},
		{"a snapshot below the match", snapping(4, 9, 2, 2), acked(2), nothing, view{Probe, 4, 9, 0, true}},
		{"between a snapshot and the match", snapping(4, 9, 2, 2), acked(3), nothing, view{Probe, 4, 9, 0, true}},
		{"a snapshot of nothing", snapping(0, 1, 1, 0), acked(0), nothing, view{Probe, 0, 1, 0, true}},
		{"the greatest snapshot", snapping(0, 1, 1, top-1), acked(top - 1), yes, view{Probe, top - 1, top, 0, true}},
		{"below the greatest snapshot", snapping(0, 1, 1, top-1), acked(top - 2), yes, view{Snap, top - 2, top - 1, 0, false}},
	})
	for _, i := range []int{0, 3, 4} {
		wantUnchanged(t, snapping(4, 5, 2, 9), acked(i), nothing)
	}
}

func TestRefusedInProbe(t *testing.T) {
	from := func(match, next int) view { return view{Probe, match, next, 0, true} }
	wantScenes(t, []scene{
		{"a hint of 0", waiting(0, 9, 2), refused(8, 0), yes, from(0, 1)},
		{"a hint below at", waiting(0, 9, 2), refused(8, 5), yes, from(0, 6)},
		{"a hint of at - 2", waiting(0, 9, 2), refused(8, 6), yes, from(0, 7)},
		{"a hint of at - 1", waiting(0, 9, 2), refused(8, 7), yes, from(0, 8)},
		{"a hint of at", waiting(0, 9, 2), refused(8, 8), yes, from(0, 8)},
		{"a hint of next", waiting(0, 9, 2), refused(8, 9), yes, from(0, 8)},
		{"the greatest hint", waiting(0, 9, 2), refused(8, top), yes, from(0, 8)},
		{"a hint above it", waiting(0, 9, 2), refused(8, top+1), yes, from(0, 1)},
		{"a hint far above it", waiting(0, 9, 2), refused(8, math.MaxInt), yes, from(0, 1)},
		{"a hint below 0", waiting(0, 9, 2), refused(8, -1), yes, from(0, 1)},
		{"a hint far below 0", waiting(0, 9, 2), refused(8, math.MinInt), yes, from(0, 1)},
		{"it does not wait", probing(0, 9, 2), refused(8, 5), yes, from(0, 6)},
		{"a hint below the match", waiting(4, 9, 2), refused(8, 3), yes, from(4, 5)},
		{"a hint at the match", waiting(4, 9, 2), refused(8, 4), yes, from(4, 5)},
		{"a hint above the match", waiting(4, 9, 2), refused(8, 5), yes, from(4, 6)},
		{"no hint, and a match", waiting(4, 9, 2), refused(8, -1), yes, from(4, 5)},
		{"next behind the match", waiting(4, 5, 2), refused(4, 4), yes, from(4, 5)},
		{"next behind the match, a hint below", waiting(4, 5, 2), refused(4, 0), yes, from(4, 5)},
		{"the first one", waiting(0, 1, 1), refused(0, 0), yes, from(0, 1)},
		{"the first one, a greater hint", waiting(0, 1, 1), refused(0, 7), yes, from(0, 1)},
		{"the last one", waiting(0, top, 1), refused(top-1, top), yes, from(0, top-1)},
		{"the last one, a hint far below", waiting(0, top, 1), refused(top-1, 5), yes, from(0, 6)},
		{"all there is", waiting(top-1, top, 1), refused(top-1, top), yes, from(top-1, top)},
	})
	for _, h := range []history{probing(4, 9, 2), waiting(4, 9, 2), waiting(0, 9, 64)} {
		for _, at := range []int{math.MinInt, -1, 0, 3, 4, 5, 7, 9, 10, top - 1, top, math.MaxInt} {
			for _, hint := range []int{-1, 0, 3, 5, 8, 9, top, top + 1} {
				wantUnchanged(t, h, refused(at, hint), nothing)
			}
		}
	}
}

func TestRefusedInStream(t *testing.T) {
	for _, hint := range []int{math.MinInt, -1, 0, 3, 4, 5, 7, 8, 9, top, top + 1, math.MaxInt} {
		for _, at := range []int{5, 6, 7, 8, 9, 10, top - 1, top, top + 1, math.MaxInt} {
			wantScenes(t, []scene{
				{"none in flight", streaming(4, 5, 2), refused(at, hint), yes, view{Probe, 4, 5, 0, true}},
				{"none in flight, a greater next", streaming(4, 9, 2), refused(at, hint), yes, view{Probe, 4, 5, 0, true}},
				{"a part full window", streaming(4, 5, 3, 6, 8), refused(at, hint), yes, view{Probe, 4, 5, 0, true}},
				{"a full window", streaming(4, 5, 2, 6, 8), refused(at, hint), yes, view{Probe, 4, 5, 0, true}},
			})
		}
		for _, at := range []int{math.MinInt, -1, 0, 3, 4} {
			for _, h := range []history{streaming(4, 5, 2), streaming(4, 9, 2), streaming(4, 5, 3, 6, 8), streaming(4, 5, 2, 6, 8)} {
				wantUnchanged(t, h, refused(at, hint), nothing)
			}
		}
	}
	wantScenes(t, []scene{
		{"a match of 0", streaming(0, 5, 2), refused(1, 7), yes, view{Probe, 0, 1, 0, true}},
		{"a match of 0, and at 0", streaming(0, 5, 2), refused(0, 7), nothing, view{Stream, 0, 5, 0, true}},
		{"all there is", streaming(top-1, top, 2), refused(top, 7), yes, view{Probe, top - 1, top, 0, true}},
		{"all there is, at the match", streaming(top-1, top, 2), refused(top-1, 7), nothing, view{Stream, top - 1, top, 0, true}},
	})
}

func TestRefusedInSnap(t *testing.T) {
	for _, h := range []history{snapping(4, 5, 2, 9), snapping(4, 9, 2, 4), snapping(0, 1, 1, 0), snapping(0, top, 64, top-1)} {
		for _, at := range edges(h.plain(t)) {
			for _, hint := range []int{-1, 0, 4, 9, top, top + 1} {
				wantUnchanged(t, h, refused(at, hint), nothing)
			}
		}
	}
}

func TestBeat(t *testing.T) {
	wantScenes(t, []scene{
		{"one that waits", waiting(0, 5, 2), beat(), nothing, view{Probe, 0, 5, 0, true}},
		{"one that waits, and has a match", waiting(4, 9, 2), beat(), nothing, view{Probe, 4, 9, 0, true}},
		{"a full window", streaming(4, 5, 2, 6, 8), beat(), nothing, view{Stream, 4, 9, 1, true}},
		{"a full window, twice", streaming(4, 5, 2, 6, 8).then(beat()), beat(), nothing, view{Stream, 4, 9, 1, true}},
		{"a full window of one", streaming(4, 5, 1, 8), beat(), nothing, view{Stream, 4, 9, 0, true}},
		{"a full window of 64", streaming(4, 5, 64, flight(5, 64)...), beat(), nothing, view{Stream, 4, 5 + 63*64/2 + 1, 63, true}},
		{"a full window once more", streaming(4, 5, 2, 6, 8).then(beat(), sent(11)), beat(), nothing, view{Stream, 4, 12, 1, true}},
	})
	for _, h := range []history{
		probing(0, 1, 1), probing(4, 9, 2), streaming(4, 5, 1), streaming(4, 5, 2), streaming(4, 5, 2, 6), streaming(4, 5, 64, flight(5, 63)...),
		snapping(0, 1, 1, 0), snapping(4, 5, 2, 9), streaming(4, 5, 2, 6, 8).then(install(9)), waiting(4, 5, 1).then(install(9)),
	} {
		wantUnchanged(t, h, beat(), nothing)
	}
}

// The first message goes, so that the index of the second one is that which is acknowledged next.
func TestBeatLetsTheFirstGo(t *testing.T) {
	h := streaming(4, 5, 3, 6, 8, 11).then(beat())
	wantScenes(t, []scene{
		{"up to the first", h, acked(6), yes, view{Stream, 6, 12, 2, true}},
		{"up to the second", h, acked(8), yes, view{Stream, 8, 12, 1, true}},
		{"up to the last", h, acked(11), yes, view{Stream, 11, 12, 0, true}},
	})
}
