package raft_test

import (
	"fmt"
	"math"
	"testing"

	"jetway/api"
	"jetway/raft"
)

// P12.1

// far are numbers beyond all bounds.
var far = []int{math.MinInt, -top, -1, top + 1, math.MaxInt}

func TestNew(t *testing.T) {
	s := api.Snap{Index: 3, Term: 1, Group: api.Group{Voters: []int{1, 2, 5}, Learners: []int{3}}, Data: []byte("first")}
	n, e := raft.New(5, api.Hard{Term: 4, Vote: 2}, s, entries(4, 1, 2, 2), [2]int{7, 3})
	if e != api.OK {
		t.Fatal(e)
	}
	if n.Last() != 6 || n.Committed() != 3 || n.Applied() != 3 {
		t.Errorf("Last %d, Committed %d, Applied %d", n.Last(), n.Committed(), n.Applied())
	}
	if n.Hard() != (api.Hard{Term: 4, Vote: 2}) || n.Role() != api.Follower || n.Leader() != 0 {
		t.Errorf("%v, role %d, leader %d", n.Hard(), n.Role(), n.Leader())
	}
	if got := snapText(n.Snap()); got != snapText(s) {
		t.Errorf("the snapshot is %s", got)
	}
	if got := groupText(n.Group()); got != groupText(s.Group) {
		t.Errorf("the group is %s", got)
	}
	if got := entriesText(n.Get(4, 9)); got != entriesText(entries(4, 1, 2, 2)) {
		t.Errorf("the entries are %s", got)
	}
	if got := readyText(n.Out()); got != readyText(api.Ready{}) {
		t.Errorf("new are %s", got)
	}
	if l := n.Todo(9); len(l) != 0 {
		t.Errorf("Todo: %v", l)
	}
}

// wantNew checks the error of New, and that there is no node beside one.
func wantNew(t *testing.T, what string, h history, asked api.Errno) {
	t.Helper()
	n, e := raft.New(h.id, h.hard, h.snap, h.entries, h.setting)
	if e != asked || (n != nil) != (e == api.OK) {
		t.Errorf("%s: %v, error %d, want %d", what, n, e, asked)
	}
	if e == api.OK {
		h.box(t).news(api.Ready{})
	}
}

func goodSnaps() map[string]api.Snap {
	return map[string]api.Snap{
		"none":            {Group: three},
		"far":             {Index: top, Term: top, Group: three},
		"Term far":        {Term: top, Group: three},
		"Index far":       {Index: top, Group: three},
		"much Data":       {Index: 5, Term: 2, Group: three, Data: longBytes(60000)},
		"one voter":       {Index: 5, Term: 2, Group: voters(9)},
		"one and learner": {Index: 5, Term: 2, Group: api.Group{Voters: []int{15}, Learners: []int{1, 2}}},
		"all nodes":       {Index: 5, Term: 2, Group: voters(upTo(15)...)},
	}
}

func wrongSnaps() map[string]api.Snap {
	l := map[string]api.Snap{
		"nothing":       {},
		"too much Data": {Index: 5, Term: 2, Group: three, Data: longBytes(60001)},
		"far more Data": {Index: 5, Term: 2, Group: three, Data: longBytes(1 << 20)},
	}
	for _, n := range far {
		l[fmt.Sprint("Index ", n)] = api.Snap{Index: n, Term: 2, Group: three}
		l[fmt.Sprint("Term ", n)] = api.Snap{Index: 5, Term: n, Group: three}
	}
	for _, g := range []api.Group{
		{}, {Learners: []int{1}}, voters(0), voters(16), voters(-1, 1), voters(1, 16), voters(2, 1), voters(1, 1), voters(1, 2, 2), voters(1, math.MaxInt), voters(math.MinInt, 1),
		{Voters: []int{1}, Learners: []int{1}}, {Voters: []int{1, 2}, Learners: []int{3, 2}}, {Voters: []int{1}, Learners: []int{3, 2}}, {Voters: []int{1}, Learners: []int{2, 2}}, {Voters: []int{1}, Learners: []int{0}}, {Voters: []int{1}, Learners: []int{16}}, {Voters: []int{1, 2, 3}, Learners: []int{2}},
	} {
		l[fmt.Sprint("group ", g)] = api.Snap{Index: 5, Term: 2, Group: g}
	}
	return l
}

func TestNewOfSnapshots(t *testing.T) {
	for what, s := range goodSnaps() {
		wantNew(t, what, history{id: 1, snap: s, setting: [2]int{2, 2}}, api.OK)
	}
	for what, s := range wrongSnaps() {
		wantNew(t, what, history{id: 1, snap: s, setting: [2]int{2, 2}}, api.ErrArg)
	}
}

func TestNewOfSettings(t *testing.T) {
	for _, good := range []int{1, 2, 63, 64} {
		wantNew(t, fmt.Sprint("window ", good), start(three).window(good), api.OK)
	}
	for _, wrong := range append([]int{0, 65, 100}, far...) {
		wantNew(t, fmt.Sprint("window ", wrong), start(three).window(wrong), api.ErrArg)
	}
	for _, patience := range append([]int{0, 1001}, far...) {
		h := start(three)
		h.setting[0] = patience
		wantNew(t, fmt.Sprint("patience ", patience), h, api.ErrArg)
	}
	for _, patience := range []int{1, 999, 1000} {
		h := start(three)
		h.setting[0] = patience
		wantNew(t, fmt.Sprint("patience ", patience), h, api.OK)
	}
	// Not the other way round.
	wantNew(t, "patience 1000, window 1", history{id: 1, snap: api.Snap{Group: three}, setting: [2]int{1000, 1}}, api.OK)
	wantNew(t, "patience 1, window 1000", history{id: 1, snap: api.Snap{Group: three}, setting: [2]int{1, 1000}}, api.ErrArg)
}

func TestNewOfNodes(t *testing.T) {
	for _, id := range append([]int{0, 16}, far...) {
		h := start(three)
		h.id = id
		wantNew(t, fmt.Sprint("node ", id), h, api.ErrArg)
	}
	// It need not be in the group.
	for id := 1; id <= 15; id++ {
		h := start(three)
		h.id = id
		wantNew(t, fmt.Sprint("node ", id), h, api.OK)
	}
	for _, hard := range []api.Hard{{Term: -1}, {Term: top + 1}, {Vote: -1}, {Vote: 16}, {Term: math.MaxInt, Vote: math.MaxInt}, {Term: math.MinInt}} {
		h := start(three)
		h.hard = hard
		wantNew(t, fmt.Sprint(hard), h, api.ErrArg)
	}
	// The term may be any, even one below those of the entries.
	for _, hard := range []api.Hard{{}, {Term: 1}, {Term: top}, {Term: top, Vote: 15}, {Vote: 1}} {
		h := start(three)
		h.hard = hard
		wantNew(t, fmt.Sprint(hard), h, api.OK)
	}
}

func TestNewOfEntries(t *testing.T) {
	for what, c := range map[string]struct {
		l     []api.Entry
		asked api.Errno
	}{
		"none":                 {nil, api.OK},
		"an empty list":        {[]api.Entry{}, api.OK},
		"many":                 {entries(4, 1, 1, 2, 2, 9, top), api.OK},
		"much Data":            {[]api.Entry{{Index: 4, Term: 1, Data: longBytes(4096)}}, api.OK},
		"Kind 7":               {[]api.Entry{{Index: 4, Term: 1, Kind: 7}}, api.OK},
		"too much Data":        {[]api.Entry{{Index: 4, Term: 1, Data: longBytes(4097)}}, api.ErrArg},
		"Kind 8":               {[]api.Entry{{Index: 4, Term: 1, Kind: 8}}, api.ErrArg},
		"Kind -1":              {[]api.Entry{{Index: 4, Term: 1, Kind: -1}}, api.ErrArg},
		"Term -1":              {[]api.Entry{{Index: 4, Term: -1}}, api.ErrArg},
		"Term too great":       {[]api.Entry{{Index: 4, Term: top + 1}}, api.ErrArg},
		"Index 0":              {[]api.Entry{{Index: 0, Term: 1}}, api.ErrArg},
		"Index too great":      {[]api.Entry{{Index: top + 1, Term: 1}}, api.ErrArg},
		"one is left out":      {entries(5, 1), api.ErrOrder},
		"in the snapshot":      {entries(3, 1), api.ErrOrder},
		"falling Terms":        {entries(4, 3, 2), api.ErrOrder},
		"a Term below the one": {entries(4, 0), api.ErrOrder},
		"a gap":                {append(entries(4, 1), entries(6, 1)...), api.ErrOrder},
		"one wrong, no order":  {append(entries(5, 1), api.Entry{}), api.ErrArg},
	} {
		h := start(three)
		h.entries = c.l
		wantNew(t, what, h, c.asked)
	}
}

// What is named first is returned: all that is named ahead of the entries is ErrArg.
func TestNewNamesTheFirstError(t *testing.T) {
	for what, spoil := range map[string]func(h *history){
		"snapshot": func(h *history) { h.snap.Term = -1 },
		"window":   func(h *history) { h.setting[1] = 65 },
		"node":     func(h *history) { h.id = 16 },
		"hard":     func(h *history) { h.hard.Vote = 16 },
		"patience": func(h *history) { h.setting[0] = 0 },
	} {
		h := start(three)
		h.entries = entries(5, 1) // ErrOrder
		wantNew(t, "entries", h, api.ErrOrder)
		spoil(&h)
		wantNew(t, what, h, api.ErrArg)
	}
}

// The group is that of the snapshot, changed by all entries, though none of them is committed.
func TestNewWorksOutTheGroup(t *testing.T) {
	l := []api.Entry{
		changing(1, 1, api.AddLearner, 4),
		changing(2, 1, api.AddLearner, 4), // it is one already
		{Index: 3, Term: 1, Kind: api.EntryData, Data: changeData(api.Remove, 2)},
		changing(4, 1, api.Promote, 4),
		{Index: 5, Term: 1, Kind: api.EntryChange, Data: append(changeData(api.Remove, 2), 0)},
		{Index: 6, Term: 1, Kind: api.EntryChange, Data: changeData(api.Remove, 2)[:3]},
		{Index: 7, Term: 1, Kind: api.EntryChange},
		{Index: 8, Term: 1, Kind: api.EntryChange, Data: []byte{2, 0, 3, 1, 2}}, // a leading zero
		changing(9, 1, 4, 2),
		changing(10, 1, 0, 2),
		changing(11, 1, api.AddLearner, 16),
		changing(12, 1, api.AddLearner, 0),
		changing(13, 1, 1<<40, 2),
		changing(14, 1, api.Remove, 1),
		changing(15, 1, api.Remove, 2),
		changing(16, 1, api.AddLearner, 2),
	}
	want := map[int]api.Group{
		0: three, 1: {Voters: upTo(3), Learners: []int{4}}, 4: voters(1, 2, 3, 4), 14: voters(2, 3, 4), 15: voters(3, 4), 16: {Voters: []int{3, 4}, Learners: []int{2}},
	}
	var now api.Group
	for many := range len(l) + 1 {
		if g, ok := want[many]; ok {
			now = g
		}
		h := fresh(1, three, 2, 2)
		h.entries = l[:many]
		h.box(t).groups(now)
	}
}

// So elect knows the group from the beginning: whom to ask, and whether it votes at all.
func TestNewLetsElectKnowTheGroup(t *testing.T) {
	h := fresh(1, three, 1, 2)
	h.entries = []api.Entry{changing(1, 1, api.Remove, 2), changing(2, 1, api.AddLearner, 5), changing(3, 1, api.Promote, 5)}
	h.box(t).do(tick(0)).sends(ballot(api.Pre, 1, 3, 1, 3, 1), ballot(api.Pre, 1, 5, 1, 3, 1))

	h = fresh(1, voters(2, 3), 1, 2)
	h.box(t).do(tick(0), tick(0)).news(api.Ready{})
	h.entries = []api.Entry{changing(1, 1, api.AddLearner, 1), changing(2, 1, api.Promote, 1)}
	h.box(t).do(tick(0)).sends(ballot(api.Pre, 1, 2, 1, 2, 1), ballot(api.Pre, 1, 3, 1, 2, 1))

	h = fresh(1, voters(1, 2), 1, 2)
	h.entries = []api.Entry{changing(1, 1, api.Remove, 1)}
	h.box(t).do(tick(0), tick(0)).news(api.Ready{})
	h.entries = []api.Entry{changing(1, 1, api.Remove, 2)}
	h.box(t).do(tick(0)).is(api.Hard{Term: 1, Vote: 1}, api.Leader, 1).at(2, 2)
}

// R3: nothing is shared with what New was given, nor with what is told.
func TestNothingIsShared(t *testing.T) {
	s := api.Snap{Index: 3, Term: 1, Group: api.Group{Voters: upTo(3), Learners: []int{5}}, Data: []byte("first")}
	l := []api.Entry{changing(4, 1, api.AddLearner, 4), dataOf(5, 1, "data")}
	n, e := raft.New(1, api.Hard{Term: 4}, s, l, [2]int{2, 2})
	if e != api.OK {
		t.Fatal(e)
	}
	before := view(n)
	spoilSnap(s)
	spoilEntries(l)
	if view(n) != before {
		t.Errorf("New has kept what it was given: %s, want %s", view(n), before)
	}
	spoilSnap(n.Snap())
	spoilSnap(api.Snap{Group: n.Group()})
	spoilEntries(n.Get(4, 9))
	if view(n) != before {
		t.Errorf("what was told is not the caller's: %s, want %s", view(n), before)
	}
	if readyText(n.Out()) != readyText(api.Ready{}) {
		t.Error("something is new")
	}
}

func spoilInts(l []int) {
	l = l[:cap(l)]
	for i := range l {
		l[i] = 77
	}
}

func spoilBytes(b []byte) {
	b = b[:cap(b)]
	for i := range b {
		b[i] ^= 255
	}
}

func spoilSnap(s api.Snap) {
	spoilInts(s.Group.Voters)
	spoilInts(s.Group.Learners)
	spoilBytes(s.Data)
}

func spoilEntries(l []api.Entry) {
	for i := range l {
		spoilBytes(l[i].Data)
		l[i] = api.Entry{Index: 99}
	}
}
