package progress

import (
	"fmt"
	"math"
	"math/rand"
	"testing"
)

// P11.1 to P11.5 along scripts: short ones, all of them, and long ones that are drawn.

// alphabet are calls of few indices, the least of which is given.
func alphabet(low int) []call {
	l := []call{beat(), over(true), over(false)}
	for i := low; i < low+5; i++ {
		l = append(l, sent(i), acked(i), install(i), refused(i, low+1), refused(i, i))
	}
	return l
}

// The first way to each state is taken on by each call.
func TestStatesAreAsTheWordsSay(t *testing.T) {
	for _, s := range []struct {
		history history
		low     int
	}{
		{start(1, 1), 0}, {start(1, 2), 0}, {start(3, 2), 0}, {start(3, 3), 0}, {start(top-2, 2), top - 4}, {start(top, 2), top - 4},
	} {
		letters := alphabet(s.low)
		seen := map[plain]bool{}
		ways := []history{s.history}
		states := map[int]int{}
		for len(ways) > 0 {
			h, q := ways[0], ways[0].plain(t)
			ways = ways[1:]
			if seen[q] {
				continue
			}
			seen[q] = true
			states[q.state]++
			wantLike(t, h)
			for _, c := range letters {
				wantCall(t, h, h.peer(t), q, c)
				ways = append(ways, h.then(c))
			}
		}
		if states[Probe] < 20 || states[Stream] < 15 || states[Snap] < 30 {
			t.Errorf("%v: states %v", s.history, states)
		}
	}
}

// script draws what is done to a peer.
type script struct{ *rand.Rand }

// near draws an index, mostly at or beside one of the peer's places, and now and then one far from them.
func (s script) near(q plain) int {
	if s.Intn(30) == 0 {
		return []int{math.MinInt, -1, top - 1, top, top + 1, math.MaxInt}[s.Intn(6)]
	}
	places := append(q.inFlight(), q.match, q.next-1, q.snap)
	return places[s.Intn(len(places))] + s.Intn(3) - 1
}

// behind draws the last index of a message that may be sent now, mostly.
func (s script) behind(q plain) int {
	if s.Intn(10) == 0 {
		return s.near(q)
	}
	return q.next - 1 + s.Intn(4)
}

func (s script) call(q plain) call {
	switch n := s.Intn(100); {
	case n < 45:
		return sent(s.behind(q))
	case n < 65:
		return acked(s.near(q))
	case n < 75 && q.state == Probe || n < 67:
		at := q.next - 1
		if s.Intn(3) == 0 {
			at = s.near(q)
		}
		return refused(at, s.near(q))
	case n < 90:
		return beat()
	case n < 92:
		return install(s.near(q))
	case q.state == Snap || n < 93:
		return over(s.Intn(2) == 0)
	}
	return sent(s.behind(q))
}

func (s script) start() history {
	next := []int{1, 1, 2, 50, top - 40, top - 1, top}[s.Intn(7)]
	return start(next, []int{1, 2, 2, 3, 5, 64}[s.Intn(6)])
}

// noted says what came of a call, for the count of what the scripts have seen.
func noted(before plain, c call, got told, after plain) string {
	return fmt.Sprintf("%s %d%d %t %t", c.name, before.state, after.state, got.yes, got.code != 0)
}

// Two peers at a time go on by turns, because neither knows of the other.
func TestScripts(t *testing.T) {
	seen := map[string]int{}
	for seed := range int64(8000) {
		s := script{rand.New(rand.NewSource(seed))}
		h := [2]history{s.start(), s.start()}
		p := [2]*Peer{h[0].peer(t), h[1].peer(t)}
		q := [2]plain{h[0].plain(t), h[1].plain(t)}
		for range 80 {
			n := s.Intn(2)
			c := s.call(q[n])
			before := q[n]
			q[n] = wantCall(t, h[n], p[n], before, c)
			_, got := c.plain(before)
			seen[noted(before, c, got, q[n])]++
			h[n] = h[n].then(c)
			if got, asked := look(p[1-n]), q[1-n].view(); got != asked {
				t.Fatalf("seed %d: the other peer is %+v, want %+v", seed, got, asked)
			}
		}
	}
	// So that the scripts do not leave out an answer that a call may give.
	for _, what := range []string{
		"Sent 00 false false", "Sent 00 false true", "Sent 11 false false", "Sent 11 false true", "Sent 22 false true",
		"Acked 00 false false", "Acked 01 true false", "Acked 01 false false", "Acked 11 true false", "Acked 11 false false", "Acked 20 true false", "Acked 20 false false", "Acked 22 true false", "Acked 22 false false",
		"Refused 00 true false", "Refused 00 false false", "Refused 10 true false", "Refused 11 false false", "Refused 22 false false",
		"Beat 00 false false", "Beat 11 false false", "Beat 22 false false",
		"Install 02 false false", "Install 12 false false", "Install 22 false false", "Install 00 false true", "Install 11 false true", "Install 22 false true",
		"Over 00 false false", "Over 11 false false", "Over 20 true false",
	} {
		if seen[what] < 60 {
			t.Fatalf("%s was seen %d times: %v", what, seen[what], seen)
		}
	}
}

// What is called at the end of a script, and changes nothing by the document, changes nothing that is told later.
func TestScriptsEndAlike(t *testing.T) {
	for seed := range int64(600) {
		s := script{rand.New(rand.NewSource(seed + 50000))}
		h := s.start()
		for range 30 {
			h = h.then(s.call(h.plain(t)))
		}
		q := h.plain(t)
		wantFutures(t, h, q)
		for _, c := range edgeCalls(q) {
			if after, _ := c.plain(q); after == q {
				h = h.then(c)
			}
		}
		wantFutures(t, h, q)
	}
}
