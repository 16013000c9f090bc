package progress

import (
	"math"
	"testing"

	"jetway/api"
)

// P11.1 and P11.2

func TestExamples(t *testing.T) {
	p, e := New(5, 2)
	if e != api.OK {
		t.Fatalf("error %d", e)
	}
	for _, s := range []struct {
		call call
		told told
		view view
	}{
		{sent(6), nothing, view{Probe, 0, 5, 0, false}},
		{acked(4), yes, view{Stream, 4, 5, 0, true}},
		{sent(6), nothing, view{Stream, 4, 7, 1, true}},
		{sent(8), nothing, view{Stream, 4, 9, 2, false}},
		{acked(6), yes, view{Stream, 6, 9, 1, true}},
		{refused(7, 3), yes, view{Probe, 6, 7, 0, true}},
	} {
		if got := s.call.peer(p); got != s.told {
			t.Errorf("%v: %+v, want %+v", s.call, got, s.told)
		}
		if got := look(p); got != s.view {
			t.Errorf("%v: the peer is %+v, want %+v", s.call, got, s.view)
		}
	}
}

func TestNew(t *testing.T) {
	for _, next := range []int{1, 2, 5, 1000, top - 100, top - 1, top} {
		for _, window := range []int{1, 2, 3, 63, 64} {
			h := start(next, window)
			if got, asked := look(h.peer(t)), (view{Probe, 0, next, 0, true}); got != asked {
				t.Errorf("%v: the peer is %+v, want %+v", h, got, asked)
			}
			wantLike(t, h)
		}
	}
}

func TestWindow(t *testing.T) {
	for _, window := range []int{1, 2, 3, 63, 64} {
		h := start(1, window).then(acked(0))
		p := h.peer(t)
		for n := range window {
			if got, asked := look(p), (view{Stream, 0, 2*n + 1, n, true}); got != asked {
				t.Fatalf("%v: behind %d messages the peer is %+v, want %+v", h, n, got, asked)
			}
			if e := p.Sent(2*n + 2); e != api.OK {
				t.Fatalf("%v: Sent(%d): error %d", h, 2*n+2, e)
			}
		}
		if got, asked := look(p), (view{Stream, 0, 2*window + 1, window, false}); got != asked {
			t.Errorf("%v: the peer is %+v, want %+v", h, got, asked)
		}
		if e := p.Sent(2*window + 2); e != api.ErrOrder {
			t.Errorf("%v: one more: error %d", h, e)
		}
	}
}

func TestWrongNew(t *testing.T) {
	wrongNexts := []int{math.MinInt, -top, -1, 0, top + 1, top + 2, math.MaxInt}
	wrongWindows := []int{math.MinInt, -64, -1, 0, 65, 66, 1 << 32, math.MaxInt}
	refuse := func(next, window int) {
		t.Helper()
		if p, e := New(next, window); p != nil || e != api.ErrArg {
			t.Errorf("New(%d, %d): %v, error %d", next, window, p, e)
		}
	}
	for _, next := range wrongNexts {
		for _, window := range append([]int{1, 2, 64}, wrongWindows...) {
			refuse(next, window)
		}
	}
	for _, window := range wrongWindows {
		for _, next := range []int{1, 5, top} {
			refuse(next, window)
		}
	}
}

func TestMay(t *testing.T) {
	for _, s := range []struct {
		what    string
		history history
		may     bool
	}{
		{"a new one", start(5, 2), true},
		{"one that waits", start(5, 2).then(sent(4)), false},
		{"one that waits no more", start(5, 2).then(sent(4), beat()), true},
		{"an empty window", streaming(4, 5, 2), true},
		{"a part full window", streaming(4, 5, 2, 6), true},
		{"a full window", streaming(4, 5, 2, 6, 8), false},
		{"a full window of one", streaming(4, 5, 1, 5), false},
		{"a window of 64 with room for one", streaming(4, 5, 64, flight(5, 63)...), true},
		{"a full window of 64", streaming(4, 5, 64, flight(5, 64)...), false},
		{"a snapshot", snapping(4, 5, 2, 9), false},
		{"a snapshot behind a full window", streaming(4, 5, 2, 6, 8).then(install(9)), false},
	} {
		if got := s.history.peer(t).May(); got != s.may {
			t.Errorf("%s: %v: May is %v", s.what, s.history, got)
		}
	}
}

func TestSentInProbe(t *testing.T) {
	wantScenes(t, []scene{
		{"none", start(5, 2), sent(4), nothing, view{Probe, 0, 5, 0, false}},
		{"one", start(5, 2), sent(5), nothing, view{Probe, 0, 5, 0, false}},
		{"many", start(5, 2), sent(12), nothing, view{Probe, 0, 5, 0, false}},
		{"up to the greatest", start(5, 2), sent(top - 1), nothing, view{Probe, 0, 5, 0, false}},
		{"beyond it", start(5, 2), sent(top), order, view{Probe, 0, 5, 0, true}},
		{"far beyond it", start(5, 2), sent(math.MaxInt), order, view{Probe, 0, 5, 0, true}},
		{"one that was sent", start(5, 2), sent(3), order, view{Probe, 0, 5, 0, true}},
		{"below 0", start(5, 2), sent(-1), order, view{Probe, 0, 5, 0, true}},
		{"far below 0", start(5, 2), sent(math.MinInt), order, view{Probe, 0, 5, 0, true}},
		{"none, of all", start(1, 1), sent(0), nothing, view{Probe, 0, 1, 0, false}},
		{"below all", start(1, 1), sent(-1), order, view{Probe, 0, 1, 0, true}},
		{"none, at the end", start(top, 1), sent(top - 1), nothing, view{Probe, 0, top, 0, false}},
		{"one, at the end", start(top, 1), sent(top), order, view{Probe, 0, top, 0, true}},
		{"one that was sent, at the end", start(top, 1), sent(top - 2), order, view{Probe, 0, top, 0, true}},
		{"a match that is not 0", probing(4, 9, 2), sent(8), nothing, view{Probe, 4, 9, 0, false}},
		{"above the match, but sent", probing(4, 9, 2), sent(7), order, view{Probe, 4, 9, 0, true}},
	})
	for _, h := range []history{waiting(0, 5, 2), waiting(4, 9, 64), waiting(0, 1, 1), waiting(0, top, 2)} {
		for _, last := range edges(h.plain(t)) {
			wantUnchanged(t, h, sent(last), order)
		}
	}
}

func TestSentInStream(t *testing.T) {
	wantScenes(t, []scene{
		{"none", streaming(4, 5, 2), sent(4), nothing, view{Stream, 4, 5, 0, true}},
		{"one", streaming(4, 5, 2), sent(5), nothing, view{Stream, 4, 6, 1, true}},
		{"many", streaming(4, 5, 2), sent(12), nothing, view{Stream, 4, 13, 1, true}},
		{"up to the greatest", streaming(4, 5, 2), sent(top - 1), nothing, view{Stream, 4, top, 1, true}},
		{"beyond it", streaming(4, 5, 2), sent(top), order, view{Stream, 4, 5, 0, true}},
		{"far beyond it", streaming(4, 5, 2), sent(math.MaxInt), order, view{Stream, 4, 5, 0, true}},
		{"one that was sent", streaming(4, 5, 2), sent(3), order, view{Stream, 4, 5, 0, true}},
		{"below 0", streaming(4, 5, 2), sent(-1), order, view{Stream, 4, 5, 0, true}},
		{"far below 0", streaming(4, 5, 2), sent(math.MinInt), order, view{Stream, 4, 5, 0, true}},
		{"a window of one", streaming(0, 1, 1), sent(1), nothing, view{Stream, 0, 2, 1, false}},
		{"none behind others", streaming(4, 5, 2, 6), sent(6), nothing, view{Stream, 4, 7, 1, true}},
		{"fewer than others", streaming(4, 5, 2, 6), sent(5), order, view{Stream, 4, 7, 1, true}},
		{"one behind others", streaming(4, 5, 2, 6), sent(7), nothing, view{Stream, 4, 8, 2, false}},
		{"none, a full window", streaming(4, 5, 2, 6, 8), sent(8), order, view{Stream, 4, 9, 2, false}},
		{"one, a full window", streaming(4, 5, 2, 6, 8), sent(9), order, view{Stream, 4, 9, 2, false}},
		{"the last of 64", streaming(4, 5, 64, flight(5, 63)...), sent(5000), nothing, view{Stream, 4, 5001, 64, false}},
		{"one more than 64", streaming(4, 5, 64, flight(5, 64)...), sent(5000), order, view{Stream, 4, 5 + 63*64/2 + 1, 64, false}},
		{"none, at the end", streaming(0, top, 2), sent(top - 1), nothing, view{Stream, 0, top, 0, true}},
		{"one, at the end", streaming(0, top, 2), sent(top), order, view{Stream, 0, top, 0, true}},
		{"one that was sent, at the end", streaming(0, top, 2), sent(top - 2), order, view{Stream, 0, top, 0, true}},
		{"the last there is", streaming(0, top-1, 2), sent(top - 1), nothing, view{Stream, 0, top, 1, true}},
		{"a next above the match", streaming(4, 9, 2), sent(9), nothing, view{Stream, 4, 10, 1, true}},
		{"above the match, but sent", streaming(4, 9, 2), sent(7), order, view{Stream, 4, 9, 0, true}},
	})
	for _, last := range []int{math.MinInt, -1, 0, 4, 5, 6, 7, 8, 9, top - 1, top, math.MaxInt} {
		wantUnchanged(t, streaming(4, 5, 2, 6, 8), sent(last), order)
	}
	for _, last := range []int{math.MinInt, -1, 0, 4, 5, top, math.MaxInt} {
		wantUnchanged(t, streaming(4, 5, 2, 6), sent(last), order)
	}
	for _, h := range []history{streaming(4, 5, 2), streaming(4, 5, 2, 6), streaming(0, 1, 64), streaming(0, top, 1)} {
		wantUnchanged(t, h, sent(h.plain(t).next-1), nothing)
	}
}

func TestSentInSnap(t *testing.T) {
	for _, h := range []history{snapping(0, 1, 1, 0), snapping(4, 5, 2, 9), snapping(4, 9, 64, 6), snapping(0, top, 2, top-1)} {
		for _, last := range edges(h.plain(t)) {
			wantUnchanged(t, h, sent(last), order)
		}
	}
}

// P11.1 to P11.5: each call with numbers at the edges, on peers of each state.
func TestEdgesAreAsTheWordsSay(t *testing.T) {
	for _, h := range all() {
		q := h.plain(t)
		wantLike(t, h)
		for _, c := range edgeCalls(q) {
			wantCall(t, h, h.peer(t), q, c)
			wantLike(t, h.then(c))
		}
	}
}
