package elect

import (
	"fmt"
	"math/bits"
	"strings"
	"testing"

	"jetway/api"
)

// P10.5 over all that can happen to three nodes with empty logs, as far as it is followed. What was sent once may come at any time, any number of times, or never: so it is a set that only grows.

type scope struct {
	g       api.Group
	ballots map[api.Ballot]int // the bit of each in a sent set
	list    []api.Ballot
	ticks   bool
	most    int  // steps
	forget  bool // by which restarts forget votes
}

func newScope(ticks bool, most int) *scope {
	return &scope{g: voters(1, 2, 3), ballots: map[api.Ballot]int{}, ticks: ticks, most: most}
}

type sentSet [2]uint64

func (s *scope) send(sent sentSet, l []api.Ballot) sentSet {
	for _, b := range l {
		bit, ok := s.ballots[b]
		if !ok {
			bit = len(s.list)
			s.ballots[b] = bit
			s.list = append(s.list, b)
		}
		sent[bit/64] |= 1 << (bit % 64)
	}
	return sent
}

func (s *scope) sent(set sentSet) []api.Ballot {
	var l []api.Ballot
	for i, word := range set {
		for ; word != 0; word &= word - 1 {
			l = append(l, s.list[i*64+bits.TrailingZeros64(word)])
		}
	}
	return l
}

// state is all of it: the nodes, what was sent, and who was leader of which term.
type state struct {
	nodes [3]plain
	sent  sentSet
	led   [8]int8
}

// way is how a state was come to.
type way struct {
	state
	histories [3]history
	steps     int
}

func (w way) String() string {
	return fmt.Sprintf("%v; %v; %v", w.histories[0], w.histories[1], w.histories[2])
}

func (s *scope) start() way {
	var w way
	for i := range w.nodes {
		h := history{id: i + 1, group: s.g, patience: 1}
		w.histories[i] = h
		w.nodes[i], _ = plainNew(h.id, h.hard, h.group, h.patience)
	}
	return w
}

// call is what w comes to by a call on a node, whose answers are checked too.
func (s *scope) call(t *testing.T, w way, at int, c call) way {
	t.Helper()
	h := w.histories[at]
	wantCall(t, h, h.node(t), w.nodes[at], c)
	q, said := c.plain(w.nodes[at])
	w.nodes[at], w.histories[at] = q, h.then(c)
	w.sent = s.send(w.sent, said.ballots)
	w.steps++
	return w
}

func (s *scope) restart(w way, at int) way {
	h := history{id: at + 1, hard: w.nodes[at].hard(), group: s.g, patience: 1}
	if s.forget {
		h.hard.Vote = 0
	}
	w.histories[at] = h
	w.nodes[at], _ = plainNew(h.id, h.hard, h.group, h.patience)
	w.steps++
	return w
}

// next are all ways one step longer.
func (s *scope) next(t *testing.T, w way) []way {
	t.Helper()
	var all []way
	for at := range 3 {
		all = append(all, s.restart(w, at))
		if s.ticks {
			all = append(all, s.call(t, w, at, tick(0)))
		}
		for term, from := range w.led {
			if from > 0 && int(from) != at+1 {
				all = append(all, s.call(t, w, at, heard(int(from), term)))
			}
		}
	}
	for _, b := range s.sent(w.sent) {
		all = append(all, s.call(t, w, b.To-1, take(b)))
	}
	return all
}

// broken says what the theorem rules out of what a way has come to, or nothing, and notes leaders.
func (s *scope) broken(before way, w *way) string {
	for i, p := range w.nodes {
		old := before.nodes[i]
		if !s.forget && (p.term < old.term || p.term == old.term && old.vote != 0 && p.vote != old.vote) {
			return fmt.Sprintf("node %d was of %v, and is of %v", i+1, old.hard(), p.hard())
		}
		if p.role != api.Leader {
			continue
		}
		if other := w.led[p.term]; other != 0 && int(other) != p.id {
			return fmt.Sprintf("%d and %d are leaders of the term %d", other, p.id, p.term)
		}
		w.led[p.term] = int8(p.id)
	}
	return ""
}

// follow goes all ways from one, and tells how many states there are, in how many of which somebody leads, and how the theorem was first broken, if it was.
func (s *scope) follow(t *testing.T, from way) (states, led int, wrong string) {
	t.Helper()
	seen := map[state]bool{from.state: true}
	for ways := []way{from}; len(ways) > 0; ways = ways[1:] {
		w := ways[0]
		if w.led != ([8]int8{}) {
			led++
		}
		if w.steps == s.most {
			continue
		}
		for _, v := range s.next(t, w) {
			if wrong := s.broken(w, &v); wrong != "" {
				return len(seen), led, fmt.Sprintf("%v: %s", v, wrong)
			}
			if !seen[v.state] {
				seen[v.state] = true
				ways = append(ways, v)
			}
		}
	}
	return len(seen), led, ""
}

// hoping is the way on which all three have waited, and have each said yes to the Pre of each other, before any of these answers has come.
func (s *scope) hoping(t *testing.T) way {
	t.Helper()
	w := s.start()
	for at := range 3 {
		w = s.call(t, w, at, tick(0))
	}
	for _, b := range s.sent(w.sent) {
		w = s.call(t, w, b.To-1, take(b))
	}
	// The Pres themselves have been answered, and are not followed any more.
	var answers []api.Ballot
	for _, b := range s.sent(w.sent) {
		if b.Kind == api.PreSay {
			answers = append(answers, b)
		}
	}
	w.sent = s.send(sentSet{}, answers)
	w.steps = 0
	return w
}

// wantWhole checks that the theorem holds on all ways, and that these are as many as they are meant to be.
func (s *scope) wantWhole(t *testing.T, from way, least int) {
	t.Helper()
	states, led, wrong := s.follow(t, from)
	if wrong != "" {
		t.Fatal(wrong)
	}
	if states < least || led < least/10 {
		t.Errorf("only %d states, and somebody leads in %d", states, led)
	}
}

// To the end, as nobody ticks any more.
func TestAllVotesOfOneTerm(t *testing.T) {
	s := newScope(false, 100)
	s.wantWhole(t, s.hoping(t), 4000)
}

func TestAllThatComesFirst(t *testing.T) {
	s := newScope(true, 9)
	s.wantWhole(t, s.start(), 60000)
}

func TestAllThatComesOfTicksInBetween(t *testing.T) {
	s := newScope(true, 7)
	s.wantWhole(t, s.hoping(t), 30000)
}

// Nodes that forget their votes elect two: so the tests above can see it.
func TestForgottenVotesAreSeen(t *testing.T) {
	s := newScope(false, 100)
	s.forget = true
	if _, _, wrong := s.follow(t, s.hoping(t)); !strings.HasSuffix(wrong, "are leaders of the term 1") {
		t.Errorf("what is broken: %q", wrong)
	}
}
