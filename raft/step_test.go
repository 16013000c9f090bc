package raft_test

import (
	"math"
	"testing"

	"jetway/api"
)

// P12.3: what does not count, the three steps in their order, and ballots

// kinds are a good message of each kind to node 1, of a term.
func kinds(from, term int) []api.Msg {
	s := api.Snap{Index: 9, Term: 4, Group: three, Data: []byte("other")}
	return []api.Msg{
		ballot(api.Pre, from, 1, term, 9, 9), yes(api.PreSay, from, 1, term, 0), ballot(api.Ask, from, 1, term, 9, 9), yes(api.Say, from, 1, term, 0),
		no(api.PreSay, from, 1, term, 0, 0), no(api.Say, from, 1, term, 0, 0),
		appendOf(from, 1, term, 6, 2, 9, entries(7, 5, 5)...), appendOf(from, 1, term, 9, 4, 9),
		yes(api.AppendSay, from, 1, term, 7), no(api.AppendSay, from, 1, term, 6, 5),
		beatOf(from, 1, term, 6, 1), beatSay(from, 1, term, 5, 1), no(api.BeatSay, from, 1, term, 5, 0),
		installOf(from, 1, term, s), yes(api.InstallSay, from, 1, term, 6), no(api.InstallSay, from, 1, term, 6, 0),
	}
}

func TestWrongMessagesDoNothing(t *testing.T) {
	for _, h := range roles() {
		for _, term := range []int{4, 5, 6} {
			for _, good := range kinds(3, term) {
				var l []call
				for _, n := range append([]int{0, 1, 16, 17}, far...) {
					m := good
					m.From = n
					l = append(l, step(m))
				}
				for _, n := range append([]int{0, 2, 3, 15, 16}, far...) {
					m := good
					m.To = n
					l = append(l, step(m))
				}
				for _, n := range far {
					m := good
					m.Term = n
					l = append(l, step(m))
				}
				for _, n := range append([]int{0, 11, 12}, far...) {
					m := good
					m.Kind = n
					l = append(l, step(m))
				}
				h.box(t).do(l...)
			}
		}
	}
}

// All that is wrong, one behind the other, and nothing comes of it later.
func TestWrongMessagesAreForgotten(t *testing.T) {
	for name, h := range roles() {
		t.Run(name, func(t *testing.T) {
			var l []call
			for _, good := range kinds(3, 6) {
				for _, change := range []func(m *api.Msg){
					func(m *api.Msg) { m.From = 0 },
					func(m *api.Msg) { m.From = 1 },
					func(m *api.Msg) { m.From = 16 },
					func(m *api.Msg) { m.From = -3 },
					func(m *api.Msg) { m.To = 0 },
					func(m *api.Msg) { m.To = 2 },
					func(m *api.Msg) { m.To = 16 },
					func(m *api.Msg) { m.Term = -1 },
					func(m *api.Msg) { m.Term = top + 1 },
					func(m *api.Msg) { m.Term = math.MaxInt },
					func(m *api.Msg) { m.Term = math.MinInt },
					func(m *api.Msg) { m.Kind = 0 },
					func(m *api.Msg) { m.Kind = 11 },
					func(m *api.Msg) { m.Kind = -7 },
					func(m *api.Msg) { m.Kind, m.From = 0, 1 },
					func(m *api.Msg) { m.To, m.Term = 2, -1 },
				} {
					m := good
					change(&m)
					l = append(l, step(m))
				}
			}
			wantNothing(t, h, append(l, step(api.Msg{}))...)
		})
	}
}

func TestMessagesAtTheBounds(t *testing.T) {
	// Nodes 1 and 15 may write, of the terms 0 and 2^40.
	for _, c := range []struct{ id, from int }{{1, 15}, {15, 1}, {2, 1}, {14, 15}} {
		h := fresh(c.id, voters(min(c.id, 8), max(c.id, 8)), 2, 2)
		h.box(t).do(step(beatOf(c.from, c.id, 0, 0, 3))).is(api.Hard{}, api.Follower, c.from).sends(beatSay(c.id, c.from, 0, 0, 3))
		h.box(t).do(step(beatOf(c.from, c.id, top, 0, 3))).news(api.Ready{HardNew: true, Hard: api.Hard{Term: top}, Msgs: []api.Msg{beatSay(c.id, c.from, top, 0, 3)}})
		h.box(t).do(step(ballot(api.Ask, c.from, c.id, top, 0, 0))).news(api.Ready{HardNew: true, Hard: api.Hard{Term: top, Vote: c.from}, Msgs: []api.Msg{yes(api.Say, c.id, c.from, top, 0)}})
		h.box(t).do(step(yes(api.InstallSay, c.from, c.id, top, 0))).news(api.Ready{HardNew: true, Hard: api.Hard{Term: top}})
	}
}

// Step 1: messages of a lesser term.
func TestLesserTerms(t *testing.T) {
	for name, h := range roles() {
		t.Run(name, func(t *testing.T) {
			t.Parallel()
			own := h.plain(t).Hard().Term
			for _, term := range []int{0, own - 1} {
				for _, index := range []int{0, 6, 9, -4, top + 3, math.MaxInt, math.MinInt} {
					for _, from := range []int{2, 3, 9} {
						for kind := api.Append; kind <= api.InstallSay; kind++ {
							for _, y := range []bool{true, false} {
								m := api.Msg{Kind: kind, From: from, To: 1, Term: term, Index: index, LogTerm: 2, Yes: y, Commit: 6, Round: 9, Hint: 2}
								before := h.box(t).do(out())
								state := view(before.n)
								before.do(step(m))
								if view(before.n) != state {
									t.Fatalf("%s: %s", msgText(m), view(before.n))
								}
								switch kind {
								case api.Append, api.Beat, api.Install:
									before.sends(no(kind+1, 1, from, own, index, 0))
								default:
									before.news(api.Ready{})
								}
							}
						}
					}
				}
			}
			// With good contents too, and for good.
			var l []call
			for _, m := range kinds(2, own-1)[6:] {
				l = append(l, step(m))
			}
			wantNothing(t, h.then(out()), append(l, out())...)
		})
	}
}

// Step 2: answers of a greater term make any node follow nobody, of that term.
func TestAnswersOfAGreaterTerm(t *testing.T) {
	for name, h := range roles() {
		t.Run(name, func(t *testing.T) {
			t.Parallel()
			own := h.plain(t).Hard().Term
			for _, term := range []int{own + 1, own + 5, top} {
				for kind := api.AppendSay; kind <= api.InstallSay; kind += 2 {
					for _, from := range []int{2, 3, 9, 15} {
						for _, y := range []bool{true, false} {
							m := api.Msg{Kind: kind, From: from, To: 1, Term: term, Index: 6, Yes: y, Round: 9}
							x := h.box(t).do(out())
							last, committed := x.n.Last(), x.n.Committed()
							hard := api.Hard{Term: term}
							x.do(step(m)).is(hard, api.Follower, 0).at(last, committed).news(api.Ready{HardNew: true, Hard: hard})
							x.tells(propose(nil), told(0, api.ErrOrder)).tells(read(1), code(api.ErrOrder))
						}
					}
					wantAll(t, h, step(api.Msg{Kind: kind, From: 2, To: 1, Term: term, Index: 7, Yes: true, Round: 9}))
				}
			}
		})
	}
}

// Those of its own term count for a Leader alone, and from members alone.
func TestAnswersThatAreIgnored(t *testing.T) {
	for name, h := range roles() {
		t.Run(name, func(t *testing.T) {
			p := h.plain(t)
			for from := 2; from <= 15; from++ {
				if p.isLeader() && p.others()[from] {
					continue
				}
				var l []call
				for kind := api.AppendSay; kind <= api.InstallSay; kind += 2 {
					for _, y := range []bool{true, false} {
						for _, index := range []int{0, 3, 6, 7, 9} {
							l = append(l, step(api.Msg{Kind: kind, From: from, To: 1, Term: p.Hard().Term, Index: index, Yes: y, Round: index, Hint: 3}))
						}
					}
				}
				if from < 6 {
					wantNothing(t, h, l...)
				}
				h.box(t).do(out()).do(l...).news(api.Ready{})
			}
		})
	}
}

// Step 3: a Leader ignores what another one of its term says, whoever that is.
func TestALeaderIgnoresLeadersOfItsTerm(t *testing.T) {
	for name, h := range roles() {
		p := h.plain(t)
		if !p.isLeader() {
			continue
		}
		t.Run(name, func(t *testing.T) {
			var l []call
			for _, from := range []int{2, 3, 9} {
				for _, m := range kinds(from, p.Hard().Term)[6:] {
					if m.Kind%2 == 1 {
						l = append(l, step(m))
					}
				}
			}
			wantNothing(t, h, l...)
			h.box(t).do(out()).do(l...).news(api.Ready{})
		})
	}
}

// Any other node follows who sends one of its term, or of a greater one.
func TestLeadersAreFollowed(t *testing.T) {
	for name, h := range roles() {
		t.Run(name, func(t *testing.T) {
			t.Parallel()
			p := h.plain(t)
			own := p.Hard().Term
			for _, term := range []int{own, own + 1, top} {
				if term == own && p.isLeader() {
					continue
				}
				for _, from := range []int{2, 3, 9} {
					for _, m := range kinds(from, term)[6:] {
						if m.Kind%2 == 0 {
							continue
						}
						x := h.box(t).do(step(m))
						hard := h.plain(t).Hard()
						if term > own {
							hard = api.Hard{Term: term}
						}
						x.is(hard, api.Follower, from).do(out())
					}
				}
				for _, m := range kinds(3, term)[6:] {
					if m.Kind%2 == 1 {
						wantAll(t, h, step(m))
					}
				}
			}
		})
	}
}

// Messages of Kind 1 to 4 are ballots.

func TestBallotsAreAnswered(t *testing.T) {
	x := start(three).box(t)
	x.do(step(ballot(api.Pre, 2, 1, 6, 6, 2))).sends(yes(api.PreSay, 1, 2, 6, 0)).is(api.Hard{Term: 4}, api.Follower, 0)
	// Its log, which ends with 6 of term 2, is newer than these.
	x.do(step(ballot(api.Pre, 2, 1, 6, 5, 2))).sends(no(api.PreSay, 1, 2, 4, 0, 0))
	x.do(step(ballot(api.Pre, 2, 1, 6, 9, 1))).sends(no(api.PreSay, 1, 2, 4, 0, 0))
	x.do(step(ballot(api.Pre, 2, 1, 6, 1, 3))).sends(yes(api.PreSay, 1, 2, 6, 0))
	x.do(step(ballot(api.Ask, 3, 1, 5, 5, 2))).news(api.Ready{HardNew: true, Hard: api.Hard{Term: 5}, Msgs: []api.Msg{no(api.Say, 1, 3, 5, 0, 0)}})
	x.do(step(ballot(api.Ask, 3, 1, 5, 7, 1))).sends(no(api.Say, 1, 3, 5, 0, 0))
	x.do(step(ballot(api.Ask, 9, 1, 5, 6, 2))).news(api.Ready{HardNew: true, Hard: api.Hard{Term: 5, Vote: 9}, Msgs: []api.Msg{yes(api.Say, 1, 9, 5, 0)}})
	x.do(step(ballot(api.Ask, 3, 1, 5, 6, 2))).sends(no(api.Say, 1, 3, 5, 0, 0))
	// What else is in a message is not a ballot's.
	m := ballot(api.Ask, 9, 1, 5, 6, 2)
	m.Commit, m.Hint, m.Round, m.Entries, m.Snap = 6, 7, 8, entries(7, 5), api.Snap{Index: 1, Term: 1, Group: three}
	x.do(step(m)).sends(yes(api.Say, 1, 9, 5, 0)).at(6, 3)
}

func TestBallotsEndALeader(t *testing.T) {
	for _, h := range []history{settled(three, 2, 3).then(read(4), out()), snapping()} {
		for _, m := range []api.Msg{ballot(api.Ask, 3, 1, 6, 1, 1), no(api.PreSay, 3, 1, 6, 0, 0), no(api.Say, 3, 1, 6, 0, 0), yes(api.Say, 3, 1, 6, 0)} {
			x := h.box(t).do(step(m), out()).is(api.Hard{Term: 6}, api.Follower, 0)
			x.tells(propose(nil), told(0, api.ErrOrder)).tells(change(api.Remove, 3), told(0, api.ErrOrder)).tells(read(5), code(api.ErrOrder))
			// No peers, and no reads: an answer of its old term, or of the new one, counts no more.
			x.do(step(beatSay(2, 1, 5, 7, 9)), step(beatSay(2, 1, 6, 7, 9)), step(yes(api.AppendSay, 3, 1, 6, 7)), step(no(api.AppendSay, 3, 1, 6, 6, 3))).news(api.Ready{})
			wantAll(t, h, step(m))
		}
		// These do not end it.
		x := h.box(t)
		x.do(step(ballot(api.Pre, 3, 1, 6, 1, 1))).sends(no(api.PreSay, 1, 3, 5, 0, 0))
		x.do(step(ballot(api.Ask, 3, 1, 5, 9, 9))).sends(no(api.Say, 1, 3, 5, 0, 0))
		x.do(step(yes(api.PreSay, 3, 1, 6, 0)), step(ballot(api.Ask, 3, 1, 4, 9, 9)), out()).is(api.Hard{Term: 5, Vote: 1}, api.Leader, 1)
	}
}

// A leader that is one anew begins anew: with no reads, round 0, and peers of which it knows nothing.
func TestLeadingAgain(t *testing.T) {
	h := settled(three, 2, 3).then(read(4), read(5), propose([]byte("x")), out(), step(no(api.Say, 2, 1, 8, 0, 0)), tick(0), tick(0), out())
	h = h.then(step(yes(api.PreSay, 3, 1, 9, 0)), out())
	x := h.box(t).do(step(yes(api.Say, 3, 1, 9, 0))).is(api.Hard{Term: 9, Vote: 1}, api.Leader, 1)
	e := empty(9, 9)
	x.news(api.Ready{From: 9, Msgs: []api.Msg{appendOf(1, 2, 9, 8, 5, 7, e), appendOf(1, 3, 9, 8, 5, 7, e)}})
	x.do(step(beatSay(2, 1, 9, 8, 2))).news(api.Ready{})
	x.tells(read(6), code(api.ErrOrder))
	x.do(step(yes(api.AppendSay, 3, 1, 9, 9))).at(9, 9).sends(beatOf(1, 2, 9, 0, 0), beatOf(1, 3, 9, 9, 0))
	x.tells(read(6), code(api.OK)).sends(beatOf(1, 2, 9, 0, 1), beatOf(1, 3, 9, 9, 1))
	x.do(step(beatSay(3, 1, 9, 8, 1))).news(api.Ready{Reads: []api.ReadAt{{Token: 6, Index: 9}}})
}

// Each kind of message in each role, with a lesser, an equal and a greater term.
func TestAllKindsInAllRoles(t *testing.T) {
	for name, h := range roles() {
		t.Run(name, func(t *testing.T) {
			t.Parallel()
			own := h.plain(t).Hard().Term
			for _, term := range []int{0, own - 1, own, own + 1, own + 2, top} {
				for _, from := range []int{2, 3, 5, 15} {
					for _, m := range kinds(from, term) {
						for _, index := range []int{-1, 0, 3, 4, m.Index, 7, 8} {
							m.Index = index
							h.box(t).do(step(m), out())
						}
					}
				}
				for _, m := range kinds(2, term) {
					if m.Kind <= api.Say {
						wantAll(t, h, step(m))
					}
				}
			}
		})
	}
}

func TestPairsOfMessages(t *testing.T) {
	for name, h := range roles() {
		t.Run(name, func(t *testing.T) {
			t.Parallel()
			own := h.plain(t).Hard().Term
			all := append(kinds(3, own), kinds(3, own+1)...)
			for _, a := range append(kinds(2, own), kinds(2, own+1)...) {
				for _, b := range all {
					x := &box{t, h, h.node(t), h.plain(t)}
					x.do(step(a), step(b), out())
				}
			}
		})
	}
}
