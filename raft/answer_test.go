package raft_test

import (
	"math"
	"slices"
	"testing"

	"jetway/api"
)

// P12.3: AppendSay, BeatSay and InstallSay, to a Leader; and what it means to advance and to send entries

func TestAppendSayAdvances(t *testing.T) {
	x := start(voters(1, 2, 3, 4, 5)).leading().box(t)
	x.do(step(yes(api.AppendSay, 4, 1, 5, 7))).at(7, 3).news(api.Ready{})
	x.do(step(yes(api.AppendSay, 4, 1, 5, 7))).at(7, 3).news(api.Ready{})
	x.do(step(yes(api.AppendSay, 2, 1, 5, 7))).at(7, 7)
	x.sends(beatOf(1, 2, 5, 7, 0), beatOf(1, 3, 5, 0, 0), beatOf(1, 4, 5, 7, 0), beatOf(1, 5, 5, 0, 0))
	x.do(step(yes(api.AppendSay, 3, 1, 5, 7))).at(7, 7).news(api.Ready{})
}

// Entries of an older term are committed only with one of its own.
func TestAdvanceAsksForItsOwnTerm(t *testing.T) {
	x := start(three).leading().box(t)
	for i := 4; i <= 6; i++ {
		x.do(step(yes(api.AppendSay, 2, 1, 5, i))).at(7, 3)
	}
	x.do(step(yes(api.AppendSay, 3, 1, 5, 6)), tick(0), step(beatSay(2, 1, 5, 7, 0))).at(7, 3)
	x.tells(read(1), code(api.ErrOrder)).tells(change(api.Remove, 2), told(0, api.ErrOrder))
	x.do(step(yes(api.AppendSay, 3, 1, 5, 7))).at(7, 7)
}

// A learner does not count, and who is not in the group does not either.
func TestAdvanceCountsVotersAlone(t *testing.T) {
	x := start(api.Group{Voters: upTo(3), Learners: []int{4, 5, 6}}).leading().box(t)
	x.do(step(yes(api.AppendSay, 4, 1, 5, 7)), step(yes(api.AppendSay, 5, 1, 5, 7)), step(yes(api.AppendSay, 6, 1, 5, 7)), step(yes(api.AppendSay, 9, 1, 5, 7))).at(7, 3)
	x.do(step(yes(api.AppendSay, 3, 1, 5, 7))).at(7, 7)
}

func TestAppendSayOfWrongIndices(t *testing.T) {
	// Above Last it is ignored; an index below all is no news, but the member may get entries.
	for _, i := range []int{8, 9, top, top + 1, math.MaxInt} {
		for _, h := range []history{start(three).leading(), settled(three, 2), snapping()} {
			wantNothing(t, h, step(yes(api.AppendSay, 3, 1, 5, i)))
			wantNothing(t, h, step(yes(api.InstallSay, 3, 1, 5, i)))
		}
	}
	for _, i := range []int{-1, math.MinInt} {
		x := start(three).leading().box(t).do(tick(0), out())
		x.do(step(yes(api.AppendSay, 3, 1, 5, i))).news(api.Ready{}).at(7, 3)
	}
}

func TestAppendSaySendsTheRest(t *testing.T) {
	// The window is 2, so that entries 10 to 13 must wait.
	x := settled(three, 2).box(t)
	for n := range 6 {
		x.do(propose([]byte{byte(n)}))
	}
	x.do(out())
	e := func(i int) api.Entry { return dataOf(i, 5, string([]byte{byte(i - 8)})) }
	// Node 2 has 8: one more message may go, with all the rest.
	x.do(step(yes(api.AppendSay, 2, 1, 5, 8)))
	x.sends(beatOf(1, 2, 5, 8, 0), beatOf(1, 3, 5, 0, 0), appendOf(1, 2, 5, 9, 5, 8, e(10), e(11), e(12), e(13)))
	// Node 3, which was probed, streams from behind what it has.
	x.do(step(yes(api.AppendSay, 3, 1, 5, 7))).sends(appendOf(1, 3, 5, 7, 5, 8, e(8), e(9), e(10), e(11), e(12), e(13)))
	x.do(step(yes(api.AppendSay, 2, 1, 5, 13))).at(13, 13)
	x.sends(beatOf(1, 2, 5, 13, 0), beatOf(1, 3, 5, 7, 0))
}

// At most eight entries are in a message, and no more messages in flight than the window.
func TestEntriesOfAMessage(t *testing.T) {
	for many := 7; many <= 26; many++ {
		for _, window := range []int{1, 2, 3, 64} {
			h := start(three).window(window)
			h.entries = append(h.entries, entries(7, slices.Repeat([]int{3}, many)...)...)
			last := 7 + many
			x := h.leading().box(t)
			// It is probed from 3 on, with one message.
			x.do(step(no(api.AppendSay, 2, 1, 5, last-1, 3)))
			x.sends(appendOf(1, 2, 5, 3, 1, 3, x.n.Get(4, 8)...))
			x.do(step(yes(api.AppendSay, 2, 1, 5, 11)))
			var l []api.Msg
			for i := 11; i < last && len(l) < window; i += 8 {
				term, _ := x.p.log.Term(i)
				l = append(l, appendOf(1, 2, 5, i, term, 3, x.n.Get(i+1, 8)...))
			}
			x.sends(l...)
		}
	}
}

func TestWindows(t *testing.T) {
	for _, window := range []int{1, 2, 7, 63, 64} {
		x := start(voters(1, 2)).window(window).leading().box(t).do(step(yes(api.AppendSay, 2, 1, 5, 7)), out())
		for range 70 {
			x.do(propose(nil))
		}
		if r := x.n.Out(); len(r.Msgs) != window {
			t.Errorf("window %d: %d messages", window, len(r.Msgs))
		}
	}
}

func TestAppendSayRefused(t *testing.T) {
	x := start(three).leading().box(t)
	// Not what was sent to it: it is probed from 6.
	x.do(step(no(api.AppendSay, 2, 1, 5, 5, 3)), step(no(api.AppendSay, 2, 1, 5, 7, 3)), step(no(api.AppendSay, 2, 1, 5, 0, 0))).news(api.Ready{})
	l := x.n.Get(4, 9)
	x.do(step(no(api.AppendSay, 2, 1, 5, 6, 4))).sends(appendOf(1, 2, 5, 4, 1, 3, l[1:]...))
	x.do(step(no(api.AppendSay, 2, 1, 5, 4, 9))).sends(appendOf(1, 2, 5, 3, 1, 3, l...))
	// Ahead of the base there is the snapshot alone.
	x.do(step(no(api.AppendSay, 2, 1, 5, 3, 0))).sends(installOf(1, 2, 5, x.history.snap))
	x.do(step(no(api.AppendSay, 2, 1, 5, 0, 0))).news(api.Ready{})
	x.do(step(no(api.AppendSay, 3, 1, 5, 6, -1))).sends(installOf(1, 3, 5, x.history.snap))
	// One that streams is probed from behind what it has.
	x = settled(three, 2, 3).then(propose([]byte("a")), propose([]byte("b")), out()).box(t)
	x.do(step(no(api.AppendSay, 2, 1, 5, 7, 3))).news(api.Ready{})
	x.do(step(no(api.AppendSay, 2, 1, 5, 8, 3))).sends(appendOf(1, 2, 5, 7, 5, 7, dataOf(8, 5, "a"), dataOf(9, 5, "b")))
	x.do(step(no(api.AppendSay, 2, 1, 5, 8, 3))).news(api.Ready{})
}

// A member whose log ends ahead of the base, at it, behind it, and at Last.
func TestSnapshotsAndEntries(t *testing.T) {
	s := api.Snap{Index: 6, Term: 2, Group: three, Data: []byte("second")}
	h := settled(three, 2).then(done(7), compact(6, s.Data), out())
	e := empty(7, 5)
	// It refuses 6, the base: of what is ahead of that, no term is known any more.
	for _, hint := range []int{math.MinInt, -9, 0, 3, 4, 5, 6, 7, top, math.MaxInt} {
		h.box(t).do(step(no(api.AppendSay, 3, 1, 5, 6, hint))).sends(installOf(1, 3, 5, s))
	}
	// It has what is up to 3, or 5, or the base: what is behind the base is under way to it already.
	for _, i := range []int{3, 5, 6} {
		x := h.box(t).do(step(yes(api.AppendSay, 3, 1, 5, i))).sends(appendOf(1, 3, 5, 6, 2, 7, e))
		x.do(step(yes(api.AppendSay, 3, 1, 5, 7))).news(api.Ready{})
	}
	// While the snapshot is under way, nothing else is sent to it.
	x := snapping().box(t).do(step(yes(api.AppendSay, 3, 1, 5, 5)), step(no(api.AppendSay, 3, 1, 5, 5, 3)), step(beatSay(3, 1, 5, 5, 0))).news(api.Ready{})
	x.do(propose([]byte("x"))).news(api.Ready{From: 8, Msgs: []api.Msg{appendOf(1, 2, 5, 7, 5, 7, dataOf(8, 5, "x"))}})
	// One that streams, and whose next entry is compacted away, gets the snapshot.
	h = settled(three, 2, 3).window(1)
	x = h.then(propose([]byte("a")), propose([]byte("b")), step(yes(api.AppendSay, 2, 1, 5, 8)), step(yes(api.AppendSay, 2, 1, 5, 9)), done(9), compact(9, nil), out()).box(t)
	snap := installOf(1, 3, 5, api.Snap{Index: 9, Term: 5, Group: three})
	x.do(step(yes(api.AppendSay, 3, 1, 5, 8))).sends(snap)
	x.do(step(yes(api.AppendSay, 3, 1, 5, 8)), step(yes(api.InstallSay, 3, 1, 5, 8))).news(api.Ready{})
	x.do(step(yes(api.InstallSay, 3, 1, 5, 9))).sends(appendOf(1, 3, 5, 9, 5, 9))
}

func TestInstallSay(t *testing.T) {
	// The entry behind the snapshot is sent as soon as the member has that.
	e := empty(7, 5)
	for _, i := range []int{6, 7} {
		for _, kind := range []int{api.InstallSay, api.AppendSay} {
			x := snapping().box(t).do(step(yes(kind, 3, 1, 5, i)))
			if i == 6 {
				x.sends(appendOf(1, 3, 5, 6, 2, 7, e))
			} else {
				x.sends(appendOf(1, 3, 5, 7, 5, 7))
			}
		}
	}
	x := snapping().box(t).do(step(yes(api.InstallSay, 3, 1, 5, 5))).news(api.Ready{})
	x.do(tick(0)).sends(beatOf(1, 2, 5, 7, 0), beatOf(1, 3, 5, 5, 0), installOf(1, 3, 5, x.n.Snap()))
	// It advances, as with an AppendSay.
	x = start(three).leading().box(t).do(step(yes(api.InstallSay, 3, 1, 5, 7))).at(7, 7)
	x.sends(beatOf(1, 2, 5, 0, 0), beatOf(1, 3, 5, 7, 0))
	// A refusal ends the snapshot, and nothing is sent.
	x = snapping().box(t).do(step(no(api.InstallSay, 3, 1, 5, 6, 0))).news(api.Ready{})
	x.do(propose([]byte("x"))).news(api.Ready{From: 8, Msgs: []api.Msg{appendOf(1, 2, 5, 7, 5, 7, dataOf(8, 5, "x")), installOf(1, 3, 5, x.n.Snap())}})
	// Where there is none, it is nothing.
	wantNothing(t, settled(three, 2), step(no(api.InstallSay, 2, 1, 5, 7, 0)), step(no(api.InstallSay, 3, 1, 5, 7, 0)))
}

// The snapshot at the last index of all is sent, though no peer counts it.
func TestSnapshotAtTheLastIndex(t *testing.T) {
	h := fresh(1, api.Group{Voters: []int{1}, Learners: []int{2}}, 1, 2)
	h.snap.Index = top
	x := h.box(t).do(tick(0)).at(top, top)
	s := installOf(1, 2, 1, h.snap)
	x.news(api.Ready{HardNew: true, Hard: api.Hard{Term: 1, Vote: 1}, Msgs: []api.Msg{s}})
	x.do(tick(0)).sends(beatOf(1, 2, 1, 0, 0), s)
	// A member that streams is not flooded with it.
	x.do(step(yes(api.AppendSay, 2, 1, 1, 5))).sends(s)
	x.do(tick(0)).sends(beatOf(1, 2, 1, 5, 0), s)
	x.do(step(yes(api.InstallSay, 2, 1, 1, top))).sends(s)
}

func TestBeatSay(t *testing.T) {
	h := settled(voters(1, 2, 3, 4, 5), 2, 3, 4, 5)
	x := h.box(t)
	for n := range 4 {
		x.tells(read(n+20), code(api.OK))
		x.sends(beatOf(1, 2, 5, 7, n+1), beatOf(1, 3, 5, 7, n+1), beatOf(1, 4, 5, 7, n+1), beatOf(1, 5, 5, 7, n+1))
	}
	done := func(tokens ...int) api.Ready {
		var r api.Ready
		for _, n := range tokens {
			r.Reads = append(r.Reads, api.ReadAt{Token: n, Index: 7})
		}
		return r
	}
	x.do(step(beatSay(2, 1, 5, 7, 0)), step(beatSay(3, 1, 5, 7, 0)), step(beatSay(4, 1, 5, 7, -1))).news(api.Ready{})
	x.do(step(beatSay(2, 1, 5, 7, 3)), step(beatSay(2, 1, 5, 7, 4)), step(beatSay(2, 1, 5, 7, 3))).news(api.Ready{})
	x.do(step(beatSay(5, 1, 5, 7, 1))).news(done(20))
	x.do(step(beatSay(9, 1, 5, 7, 4))).news(api.Ready{})
	x.do(step(beatSay(5, 1, 5, 7, 3))).news(done(21, 22))
	x.do(step(beatSay(4, 1, 5, 7, 9))).news(done(23))
	x.do(step(beatSay(3, 1, 5, 7, 9))).news(api.Ready{})
	// A read is completed with what was committed when it was asked for.
	x.tells(read(1), code(api.OK)).do(propose(nil), step(yes(api.AppendSay, 2, 1, 5, 8)), step(yes(api.AppendSay, 3, 1, 5, 8))).at(8, 8)
	x.tells(read(2), code(api.OK)).do(out(), step(beatSay(4, 1, 5, 8, 6)), out(), step(beatSay(3, 1, 5, 8, 6)))
	x.news(api.Ready{Reads: []api.ReadAt{{Token: 1, Index: 7}, {Token: 2, Index: 8}}})
	// Whether it says yes is not asked.
	x.do(read(3), out(), step(no(api.BeatSay, 2, 1, 5, 8, 0)))
	m := beatSay(2, 1, 5, 8, 7)
	m.Yes = false
	n := m
	n.From = 3
	x.do(out(), step(m), out(), step(n)).news(api.Ready{Reads: []api.ReadAt{{Token: 3, Index: 8}}})
}

// Learners support reads too, but are no part of a majority, until they are promoted.
func TestBeatSayOfLearners(t *testing.T) {
	x := settled(api.Group{Voters: []int{1, 2, 3}, Learners: []int{4, 5}}, 2, 3, 4, 5).box(t)
	x.do(read(1), out(), step(beatSay(4, 1, 5, 7, 1)), step(beatSay(5, 1, 5, 7, 1))).news(api.Ready{})
	x.do(step(beatSay(2, 1, 5, 7, 1))).news(api.Ready{Reads: []api.ReadAt{{Token: 1, Index: 7}}})
	x.do(read(2), step(beatSay(4, 1, 5, 7, 2)), out())
	for n, node := range []int{3, 2} {
		x.do(change(api.Remove, node), out())
		for _, from := range []int{2, 3, 4, 5} {
			x.do(step(yes(api.AppendSay, from, 1, 5, 8+n)))
		}
		x.do(out())
	}
	// It is alone now; nothing is completed but by an answer, even one to no read.
	x.groups(api.Group{Voters: []int{1}, Learners: []int{4, 5}}).news(api.Ready{})
	x.tells(read(3), code(api.OK)).news(api.Ready{Reads: []api.ReadAt{{Token: 3, Index: 9}}})
	x.do(step(beatSay(5, 1, 5, 9, 0))).news(api.Ready{Reads: []api.ReadAt{{Token: 2, Index: 7}}})
}

// Behind a BeatSay a member gets entries, if it lacks some and may have them.
func TestBeatSaySendsEntries(t *testing.T) {
	e := empty(7, 5)
	x := start(three).leading().box(t)
	x.do(step(beatSay(2, 1, 5, 6, 0))).news(api.Ready{}) // it was sent them, and has not answered
	x.do(tick(0), out(), step(beatSay(2, 1, 5, 6, 0))).news(api.Ready{})
	// A window opens by the tick, and not by the answer to its Beat.
	x = settled(three, 2).window(1).then(propose([]byte("a")), propose([]byte("b")), out()).box(t)
	x.do(step(beatSay(2, 1, 5, 7, 0))).news(api.Ready{})
	x.do(tick(0)).sends(beatOf(1, 2, 5, 7, 0), appendOf(1, 2, 5, 8, 5, 7, dataOf(9, 5, "b")), beatOf(1, 3, 5, 0, 0), appendOf(1, 3, 5, 6, 2, 7, e, dataOf(8, 5, "a"), dataOf(9, 5, "b")))
	// One that is probed, and may be sent something, is.
	x = snapping().box(t).do(step(no(api.InstallSay, 3, 1, 5, 6, 0)), step(beatSay(3, 1, 5, 3, 0))).sends(installOf(1, 3, 5, api.Snap{Index: 6, Term: 2, Group: three, Data: []byte("second")}))
	x.do(step(beatSay(3, 1, 5, 3, 0))).news(api.Ready{})
	// One entry is enough, though it is in the snapshot.
	x = settled(three, 2).then(done(7), compact(7, nil), step(no(api.AppendSay, 3, 1, 5, 6, 4)), step(yes(api.AppendSay, 3, 1, 5, 6)), step(no(api.InstallSay, 3, 1, 5, 7, 0)), out()).box(t)
	x.do(step(beatSay(3, 1, 5, 6, 0))).sends(installOf(1, 3, 5, api.Snap{Index: 7, Term: 5, Group: three}))
	// One that has all is not, even where it is probed.
	x = snapping().box(t).do(step(yes(api.InstallSay, 3, 1, 5, 7)), tick(0), out(), step(beatSay(3, 1, 5, 7, 0))).news(api.Ready{})
	h := settled(voters(1, 2), 2).then(done(7), compact(7, nil), propose(nil), step(no(api.AppendSay, 2, 1, 5, 8, 0)), step(yes(api.AppendSay, 2, 1, 5, 8)), out())
	h.box(t).do(step(beatSay(2, 1, 5, 8, 0))).news(api.Ready{})
}
