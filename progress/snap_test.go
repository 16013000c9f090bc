package progress

import "testing"

// P11.5

func TestWrongInstall(t *testing.T) {
	for _, h := range all() {
		for _, i := range noIndex {
			wantUnchanged(t, h, install(i), wrong)
		}
	}
}

func TestInstall(t *testing.T) {
	wantScenes(t, []scene{
		{"of a new one", start(5, 2), install(9), nothing, view{Snap, 0, 5, 0, false}},
		{"of nothing", start(1, 1), install(0), nothing, view{Snap, 0, 1, 0, false}},
		{"the greatest", start(5, 2), install(top - 1), nothing, view{Snap, 0, 5, 0, false}},
		{"a next at the end", start(top, 2), install(3), nothing, view{Snap, 0, top, 0, false}},
		{"of one that waits", waiting(4, 9, 2), install(8), nothing, view{Snap, 4, 9, 0, false}},
		{"below the match", probing(4, 9, 2), install(3), nothing, view{Snap, 4, 9, 0, false}},
		{"at the match", probing(4, 9, 2), install(4), nothing, view{Snap, 4, 9, 0, false}},
		{"at next", probing(4, 9, 2), install(9), nothing, view{Snap, 4, 9, 0, false}},
		{"an empty window", streaming(4, 5, 2), install(9), nothing, view{Snap, 4, 5, 0, false}},
		{"a part full window", streaming(4, 5, 2, 6), install(9), nothing, view{Snap, 4, 7, 0, false}},
		{"a full window", streaming(4, 5, 2, 6, 8), install(9), nothing, view{Snap, 4, 9, 0, false}},
		{"a full window of 64", streaming(4, 5, 64, flight(5, 64)...), install(9), nothing, view{Snap, 4, 5 + 63*64/2 + 1, 0, false}},
		{"behind another", snapping(4, 5, 2, 9), install(7), nothing, view{Snap, 4, 5, 0, false}},
	})
}

// Of two snapshots only the later one counts.
func TestInstallTwice(t *testing.T) {
	lower, higher := snapping(4, 5, 2, 9).then(install(7)), snapping(4, 5, 2, 7).then(install(9))
	wantScenes(t, []scene{
		{"the lower one is there", lower, acked(7), yes, view{Probe, 7, 8, 0, true}},
		{"the lower one is over", lower, over(true), yes, view{Probe, 4, 8, 0, true}},
		{"the higher one is not there", higher, acked(8), yes, view{Snap, 8, 9, 0, false}},
		{"the higher one is over", higher, over(true), yes, view{Probe, 4, 10, 0, true}},
	})
}

func TestOver(t *testing.T) {
	from := func(match, next int) view { return view{Probe, match, next, 0, true} }
	wantScenes(t, []scene{
		{"it came", snapping(4, 5, 2, 9), over(true), yes, from(4, 10)},
		{"it did not", snapping(4, 5, 2, 9), over(false), yes, from(4, 5)},
		{"it came, a greater next", snapping(4, 20, 2, 9), over(true), yes, from(4, 10)},
		{"it did not, a greater next", snapping(4, 20, 2, 9), over(false), yes, from(4, 5)},
		{"it came, one above the match", snapping(4, 5, 2, 5), over(true), yes, from(4, 6)},
		{"it came, at the match", snapping(4, 9, 2, 4), over(true), yes, from(4, 5)},
		{"it came, below the match", snapping(4, 9, 2, 2), over(true), yes, from(4, 5)},
		{"it did not, below the match", snapping(4, 9, 2, 2), over(false), yes, from(4, 5)},
		{"it came, of nothing", snapping(0, 9, 2, 0), over(true), yes, from(0, 1)},
		{"it did not, of nothing", snapping(0, 9, 2, 0), over(false), yes, from(0, 1)},
		{"it came, the greatest", snapping(0, 1, 1, top-1), over(true), yes, from(0, top)},
		{"it did not, the greatest", snapping(0, top, 1, top-1), over(false), yes, from(0, 1)},
		{"it came, all there is", snapping(top-1, top, 1, top-1), over(true), yes, from(top-1, top)},
		{"it did not, all there is", snapping(top-1, top, 1, top-1), over(false), yes, from(top-1, top)},
		{"the match rose on the way", snapping(4, 5, 2, 9).then(acked(7)), over(false), yes, from(7, 8)},
		{"it came, the match rose on the way", snapping(4, 5, 2, 9).then(acked(7)), over(true), yes, from(7, 10)},
		{"behind one that waited", waiting(4, 9, 2).then(install(10)), over(true), yes, from(4, 11)},
		{"behind a full window", streaming(4, 5, 2, 6, 8).then(install(6)), over(true), yes, from(4, 7)},
	})
	for _, h := range all() {
		if h.plain(t).state == Snap {
			continue
		}
		for _, ok := range []bool{false, true} {
			wantUnchanged(t, h, over(ok), nothing)
		}
	}
	for _, h := range []history{snapping(4, 5, 2, 9).then(over(true)), snapping(4, 5, 2, 9).then(acked(9)), snapping(4, 5, 2, 9).then(over(false), sent(4))} {
		wantUnchanged(t, h, over(true), nothing)
		wantUnchanged(t, h, over(false), nothing)
	}
}
