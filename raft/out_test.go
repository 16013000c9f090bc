package raft_test

import (
	"math"
	"slices"
	"testing"

	"jetway/api"
)

// P12.5

func TestOut(t *testing.T) {
	h := api.Hard{Term: 9}
	// Nothing is new twice.
	for _, r := range roles() {
		r.then(out()).box(t).news(api.Ready{})
		r.then(tick(0), out(), out()).box(t).news(api.Ready{})
	}
	// The hard state is new when it is not what was told last: its term, or its vote.
	x := start(three).box(t).do(step(ballot(api.Ask, 2, 1, 4, 6, 2))).news(api.Ready{HardNew: true, Hard: api.Hard{Term: 4, Vote: 2}, Msgs: []api.Msg{yes(api.Say, 1, 2, 4, 0)}})
	x.do(step(ballot(api.Ask, 2, 1, 4, 6, 2))).sends(yes(api.Say, 1, 2, 4, 0))
	x.do(step(beatOf(3, 1, 8, 0, 0)), step(beatOf(3, 1, 9, 0, 0))).news(api.Ready{HardNew: true, Hard: h, Msgs: []api.Msg{beatSay(1, 3, 8, 6, 0), beatSay(1, 3, 9, 6, 0)}})
	// What a Ready has of messages and reads stands in their order, and From is the least index.
	x = settled(three, 2, 3).box(t).do(read(3), read(1), propose([]byte("a")), step(beatSay(2, 1, 5, 7, 2)), propose([]byte("b")))
	x.news(api.Ready{From: 8, Reads: []api.ReadAt{{Token: 3, Index: 7}, {Token: 1, Index: 7}}, Msgs: []api.Msg{
		beatOf(1, 2, 5, 7, 1), beatOf(1, 3, 5, 7, 1), beatOf(1, 2, 5, 7, 2), beatOf(1, 3, 5, 7, 2),
		appendOf(1, 2, 5, 7, 5, 7, dataOf(8, 5, "a")), appendOf(1, 3, 5, 7, 5, 7, dataOf(8, 5, "a")),
		appendOf(1, 2, 5, 8, 5, 7, dataOf(9, 5, "b")), appendOf(1, 3, 5, 8, 5, 7, dataOf(9, 5, "b")),
	}})
}

func TestFrom(t *testing.T) {
	write := func(index, term int) call {
		return step(appendOf(2, 1, term, index-1, map[int]int{5: 1, 6: 2, 7: 2}[index], 0, entries(index, term)...))
	}
	for want, l := range map[int][]call{
		0: {}, 7: {write(7, 4)}, 6: {write(7, 4), write(6, 5)}, 5: {write(5, 4), step(appendOf(2, 1, 4, 5, 4, 0, entries(6, 4, 4)...)), step(appendOf(2, 1, 5, 6, 4, 0, entries(7, 5)...))},
	} {
		x := start(three).box(t).do(l...)
		if r := x.n.Out(); r.From != want {
			t.Errorf("From %d, want %d", r.From, want)
		}
		if r := x.n.Out(); r.From != 0 {
			t.Errorf("From %d again", r.From)
		}
	}
	// A Compact does not write, nor does what is there already.
	x := settled(voters(1), 1).then(done(7)).box(t)
	x.do(compact(6, nil)).news(api.Ready{})
	start(three).box(t).do(step(appendOf(2, 1, 4, 4, 1, 0, entries(5, 2, 2)...)), step(appendOf(2, 1, 4, 6, 1, 0, entries(7, 4)...))).tells(get(7, 1), entriesText(nil))
}

// Old answers are the caller's: what is done to them changes nothing.
func TestOutIsTheCallers(t *testing.T) {
	h := settled(three, 2, 3).then(read(1), propose([]byte("a")), tick(0), step(beatSay(2, 1, 5, 7, 1)))
	n, like := h.node(t), h.node(t)
	r := n.Out()
	like.Out()
	for i := range r.Msgs {
		spoilEntries(r.Msgs[i].Entries)
		r.Msgs[i] = api.Msg{}
	}
	r.Reads[0] = api.ReadAt{}
	_ = append(r.Msgs[:1], api.Msg{Kind: 3})
	_ = append(r.Reads[:0], api.ReadAt{Token: 4})
	for range 3 {
		n.Tick(0)
		like.Tick(0)
		if got, asked := readyText(n.Out())+view(n), readyText(like.Out())+view(like); got != asked {
			t.Fatalf("%s, want %s", got, asked)
		}
	}
}

func TestTodoAndDone(t *testing.T) {
	h := start(three).then(step(appendOf(2, 1, 4, 6, 2, 8, entries(7, 4, 4, 4)...)), out())
	all := append(entries(4, 1, 2, 2), entries(7, 4, 4, 4)...)
	for applied := 3; applied <= 8; applied++ {
		for most := -2; most <= 9; most++ {
			todoIs := all[applied-3 : 5]
			todoIs = todoIs[:min(max(most, 0), len(todoIs))]
			h.then(done(applied)).box(t).tells(todo(most), entriesText(todoIs))
		}
		for _, most := range far {
			todoIs := all[applied-3 : 5]
			if most < 0 {
				todoIs = nil
			}
			h.then(done(applied)).box(t).tells(todo(most), entriesText(todoIs))
		}
		for i := -1; i <= 11; i++ {
			asked, then := code(api.ErrOrder), applied
			if within(applied, i, 8) {
				asked, then = code(api.OK), i
			}
			x := h.then(done(applied)).box(t).tells(done(i), asked)
			if x.n.Applied() != then {
				t.Errorf("Applied %d, want %d", x.n.Applied(), then)
			}
			x.news(api.Ready{})
		}
	}
	for _, i := range far {
		h.box(t).tells(done(i), code(api.ErrOrder))
	}
	// Todo tells the same until Done.
	x := h.box(t).tells(todo(2), entriesText(all[:2])).tells(todo(2), entriesText(all[:2])).tells(done(4), code(api.OK)).tells(todo(2), entriesText(all[1:3]))
	l := x.n.Todo(9)
	before := view(x.n)
	spoilEntries(l)
	if view(x.n) != before {
		t.Error("Todo shares the entries")
	}
}

func TestCompact(t *testing.T) {
	g := api.Group{Voters: []int{1, 2, 3}, Learners: []int{4}}
	h := start(three).then(step(appendOf(2, 1, 4, 6, 2, 10, changing(7, 4, api.AddLearner, 4), empty(8, 4), changing(9, 4, api.Remove, 3), empty(10, 4), changing(11, 4, api.Promote, 4), empty(12, 4))), out())
	groups := map[int]api.Group{3: three, 4: three, 6: three, 7: g, 8: g, 9: {Voters: []int{1, 2}, Learners: []int{4}}}
	terms := map[int]int{3: 1, 4: 1, 6: 2, 7: 4, 8: 4, 9: 4}
	for i := 1; i <= 13; i++ {
		x := h.then(done(9)).box(t)
		before := view(x.n)
		if !within(3, i, 9) {
			if x.tells(compact(i, []byte("new")), code(api.ErrOrder)); view(x.n) != before {
				t.Errorf("%d: %s", i, view(x.n))
			}
			wantNothing(t, h.then(done(9)), compact(i, []byte("new")))
			continue
		}
		x.tells(compact(i, []byte("new")), code(api.OK)).at(12, 10).groups(voters(1, 2, 4)).news(api.Ready{})
		if s, ok := groups[i]; ok {
			if got := snapText(x.n.Snap()); got != snapText(api.Snap{Index: i, Term: terms[i], Group: s, Data: []byte("new")}) {
				t.Errorf("%d: %s", i, got)
			}
		}
		x.tells(get(i, 1), entriesText(nil)).tells(get(i+1, 1), entriesText(h.box(t).n.Get(i+1, 1)))
		// The group goes on to follow the entries behind the snapshot.
		x.do(step(appendOf(2, 1, 5, 10, 4, 10, empty(11, 5)))).groups(groups[9])
		wantFutures(t, h.then(done(9), compact(i, nil)), h.then(done(9), compact(i, nil)))
	}
	for _, i := range far {
		h.box(t).tells(compact(i, nil), code(api.ErrOrder))
	}
}

func TestCompactOfLongData(t *testing.T) {
	h := start(voters(1)).leading().then(done(7))
	for _, n := range []int{0, 1, 59999, 60000} {
		data := longBytes(n)
		x := h.box(t).tells(compact(5, data), code(api.OK))
		if got := snapText(x.n.Snap()); got != snapText(api.Snap{Index: 5, Term: 2, Group: voters(1), Data: data}) {
			t.Error(got)
		}
		before := view(x.n)
		spoilBytes(data)
		if view(x.n) != before {
			t.Error("the Data are kept")
		}
	}
	for _, n := range []int{60001, 70000} {
		// Named ahead of the index.
		for _, i := range []int{5, 2, 99, -1} {
			h.box(t).tells(compact(i, longBytes(n)), code(api.ErrArg)).at(7, 7)
		}
		wantNothing(t, h, compact(5, longBytes(n)))
	}
	// Twice at the same index: the Data are the newer ones.
	x := h.box(t).do(compact(6, []byte("a"))).tells(compact(6, []byte("b")), code(api.OK)).tells(compact(5, []byte("c")), code(api.ErrOrder))
	if s := x.n.Snap(); string(s.Data) != "b" || s.Index != 6 {
		t.Error(snapText(s))
	}
}

// A Compact is no Install: its snapshot is not new.
func TestCompactIsNotNew(t *testing.T) {
	s := api.Snap{Index: 9, Term: 4, Group: three, Data: []byte("other")}
	x := start(three).box(t).do(step(installOf(2, 1, 4, s)), out())
	x.do(step(appendOf(2, 1, 4, 9, 4, 11, entries(10, 4, 4)...)), out(), done(11)).tells(compact(11, []byte("own")), code(api.OK)).news(api.Ready{})
}

func TestGet(t *testing.T) {
	h := start(three).then(step(appendOf(2, 1, 4, 6, 2, 6, entries(7, 4)...)), out())
	all := append(entries(4, 1, 2, 2), entries(7, 4)...)
	for from := -1; from <= 9; from++ {
		for most := -1; most <= 6; most++ {
			var asked []api.Entry
			if within(4, from, 7) && most > 0 {
				asked = all[from-4:]
				asked = asked[:min(most, len(asked))]
			}
			h.box(t).tells(get(from, most), entriesText(asked))
		}
	}
	for _, n := range far {
		h.box(t).tells(get(n, 1), entriesText(nil))
	}
	h.box(t).tells(get(4, math.MaxInt), entriesText(all)).tells(get(4, math.MinInt), entriesText(nil))
}

// P1: nothing panics, whatever it is given.
func TestNothingPanics(t *testing.T) {
	numbers := append([]int{0, 1, 2, 5, 15, 16}, far...)
	for name, h := range roles() {
		t.Run(name, func(t *testing.T) {
			x := h.box(t)
			for _, i := range numbers {
				x.do(tick(i), read(i), todo(i), done(i), compact(i, nil), get(i, i), change(i, 5), change(3, i), out())
				for kind := 1; kind <= 10; kind++ {
					m := api.Msg{Kind: kind, From: 2, To: 1, Term: 5, Index: i, LogTerm: i, Commit: i, Hint: i, Round: i}
					yes := m
					yes.Yes = true
					full := m
					full.Entries = []api.Entry{{Index: i + 1, Term: i}, {Index: i + 2, Term: i}}
					other := m
					other.Snap = api.Snap{Index: i, Term: i, Group: voters(2)}
					x.do(step(m), step(yes), step(full), step(other), out())
				}
			}
			x.do(slices.Repeat([]call{tick(0), out()}, 5)...)
		})
	}
}
