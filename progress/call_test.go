package progress

import (
	"fmt"
	"math"
	"slices"
	"testing"

	"jetway/api"
)

// view is what a peer tells of itself.
type view struct {
	state, match, next, flying int
	may                        bool
}

func look(p *Peer) view { return view{p.State(), p.Match(), p.Next(), p.Flying(), p.May()} }

// told is what a call returned.
type told struct {
	yes  bool
	code api.Errno
}

var (
	nothing = told{}
	yes     = told{yes: true}
	order   = told{code: api.ErrOrder}
	wrong   = told{code: api.ErrArg}
)

// call is one of the methods with its arguments, for a peer and for the second reading of it.
type call struct {
	name string
	a, b int
	ok   bool
}

func sent(last int) call { return call{name: "Sent", a: last} }

func acked(i int) call { return call{name: "Acked", a: i} }

func refused(at, hint int) call { return call{name: "Refused", a: at, b: hint} }

func beat() call { return call{name: "Beat"} }

func install(i int) call { return call{name: "Install", a: i} }

func over(ok bool) call { return call{name: "Over", ok: ok} }

func (c call) String() string {
	switch c.name {
	case "Refused":
		return fmt.Sprintf("Refused(%d, %d)", c.a, c.b)
	case "Beat":
		return "Beat()"
	case "Over":
		return fmt.Sprintf("Over(%v)", c.ok)
	}
	return fmt.Sprintf("%s(%d)", c.name, c.a)
}

func (c call) peer(p *Peer) told {
	switch c.name {
	case "Sent":
		return told{code: p.Sent(c.a)}
	case "Acked":
		return told{yes: p.Acked(c.a)}
	case "Refused":
		return told{yes: p.Refused(c.a, c.b)}
	case "Install":
		return told{code: p.Install(c.a)}
	case "Over":
		return told{yes: p.Over(c.ok)}
	}
	p.Beat()
	return told{}
}

func (c call) plain(p plain) (plain, told) {
	var t told
	switch c.name {
	case "Sent":
		p, t.code = p.sent(c.a)
	case "Acked":
		p, t.yes = p.acked(c.a)
	case "Refused":
		p, t.yes = p.refused(c.a, c.b)
	case "Beat":
		p = p.beat()
	case "Install":
		p, t.code = p.install(c.a)
	case "Over":
		p, t.yes = p.over(c.ok)
	}
	return p, t
}

// history is how a peer came to be as it is: what New was given, and the calls since. So the same peer can be made twice.
type history struct {
	next, window int
	calls        []call
}

func start(next, window int) history { return history{next: next, window: window} }

func (h history) then(l ...call) history {
	h.calls = slices.Concat(h.calls, l)
	return h
}

func (h history) String() string { return fmt.Sprintf("New(%d, %d) %v", h.next, h.window, h.calls) }

func (h history) peer(t *testing.T) *Peer {
	t.Helper()
	p, e := New(h.next, h.window)
	if e != api.OK {
		t.Fatalf("%v: error %d", h, e)
	}
	for _, c := range h.calls {
		c.peer(p)
	}
	return p
}

func (h history) plain(t *testing.T) plain {
	t.Helper()
	p, e := plainNew(h.next, h.window)
	if e != api.OK {
		t.Fatalf("%v: error %d", h, e)
	}
	for _, c := range h.calls {
		p, _ = c.plain(p)
	}
	return p
}

// wantCall does a call on a peer, and holds what it returns, and what the peer tells then, against the second reading.
func wantCall(t *testing.T, h history, p *Peer, q plain, c call) plain {
	t.Helper()
	q, asked := c.plain(q)
	if got := c.peer(p); got != asked {
		t.Fatalf("%v: %v: %+v, want %+v", h, c, got, asked)
	}
	if got := look(p); got != q.view() {
		t.Fatalf("%v: %v: the peer is %+v, want %+v", h, c, got, q.view())
	}
	return q
}

// wantLike checks that the peer of a history does what the second reading of it does from now on.
func wantLike(t *testing.T, h history) {
	t.Helper()
	wantFutures(t, h, h.plain(t))
}

// wantFutures checks that the peer of a history does what q does from now on.
func wantFutures(t *testing.T, h history, q plain) {
	t.Helper()
	if got := look(h.peer(t)); got != q.view() {
		t.Fatalf("%v: the peer is %+v, want %+v", h, got, q.view())
	}
	for _, f := range futures(q) {
		p, r := h.peer(t), q
		for _, c := range f {
			r = wantCall(t, h, p, r, c)
		}
	}
}

// futures are scripts that bring to light what a peer does not tell by itself: what is in flight, how many may be, and which snapshot is under way.
func futures(q plain) [][]call {
	var land, fill []call
	for _, last := range q.inFlight() {
		land = append(land, acked(last-1), acked(last))
	}
	for i := range q.window + 1 {
		fill = append(fill, sent(q.next+2*i), beat(), sent(q.next+2*i+1))
	}
	all := [][]call{
		{over(true), sent(q.next), beat(), sent(q.next)},
		{over(false), refused(q.match, 0)},
		{refused(q.next-1, q.next), sent(q.next), acked(q.match), sent(q.next)},
		{install(q.next), acked(q.next - 1), acked(q.next)},
		append(land, fill...),
		append([]call{acked(q.match)}, fill...),
		{beat(), beat(), beat()},
	}
	for i := q.snap - 1; i <= q.snap+1; i++ {
		all = append(all, []call{acked(i), sent(q.next), sent(q.next + 1)})
	}
	return all
}

// edges are numbers at, beside and far from the places that a peer knows.
func edges(q plain) []int {
	l := []int{math.MinInt, -top, top + 1, math.MaxInt}
	for _, place := range []int{0, q.match, q.next, q.snap, top} {
		l = append(l, place-2, place-1, place, place+1)
	}
	if f := q.inFlight(); len(f) > 0 {
		l = append(l, f[0]-1, f[0], f[0]+1, f[len(f)-1])
	}
	slices.Sort(l)
	return slices.Compact(l)
}

// edgeCalls are all the calls with such numbers.
func edgeCalls(q plain) []call {
	l := []call{beat(), over(true), over(false)}
	for _, i := range edges(q) {
		l = append(l, sent(i), acked(i), install(i))
		for _, hint := range edges(q) {
			l = append(l, refused(i, hint))
		}
	}
	return l
}

// scene is a call on the peer of a history, with what the document says of it in so many words.
type scene struct {
	what    string
	history history
	call    call
	told    told
	view    view
}

func wantScenes(t *testing.T, l []scene) {
	t.Helper()
	for _, s := range l {
		p := s.history.peer(t)
		if got := s.call.peer(p); got != s.told {
			t.Errorf("%s: %v: %v: %+v, want %+v", s.what, s.history, s.call, got, s.told)
		}
		if got := look(p); got != s.view {
			t.Errorf("%s: %v: %v: the peer is %+v, want %+v", s.what, s.history, s.call, got, s.view)
		}
		wantLike(t, s.history.then(s.call))
	}
}

// wantUnchanged checks that a call returns what is asked, and changes nothing that any later call tells.
func wantUnchanged(t *testing.T, h history, c call, asked told) {
	t.Helper()
	if got := c.peer(h.peer(t)); got != asked {
		t.Fatalf("%v: %v: %+v, want %+v", h, c, got, asked)
	}
	wantFutures(t, h.then(c), h.plain(t))
}

// The peers of each state, by what is known of them.

// probing has this match and this next index.
func probing(match, next, window int) history {
	if match == 0 {
		return start(next, window)
	}
	return start(1, window).then(acked(match), install(next-1), over(true))
}

func waiting(match, next, window int) history {
	return probing(match, next, window).then(sent(next - 1))
}

// streaming has messages in flight whose last indices are these.
func streaming(match, next, window int, flight ...int) history {
	h := probing(match, next, window).then(acked(match))
	for _, last := range flight {
		h = h.then(sent(last))
	}
	return h
}

func snapping(match, next, window, i int) history {
	return probing(match, next, window).then(install(i))
}

// flight are so many messages, the first one with the last index i, and each one with one entry more than the one before.
func flight(i, many int) []int {
	var l []int
	for n := range many {
		l = append(l, i)
		i += n + 1
	}
	return l
}

// all are peers of each state, at the edges that the document names.
func all() []history {
	return []history{
		probing(0, 1, 1), probing(0, 2, 2), probing(0, 5, 2), probing(4, 5, 2), probing(4, 9, 64), probing(0, top, 2), probing(top-1, top, 64), probing(top-4, top-1, 1),
		waiting(0, 1, 1), waiting(0, 5, 2), waiting(4, 5, 64), waiting(4, 9, 2), waiting(0, top, 1), waiting(top-1, top, 2),
		streaming(0, 1, 1), streaming(0, 5, 2), streaming(4, 5, 2), streaming(4, 9, 64), streaming(0, top, 1), streaming(top-1, top, 2),
		streaming(0, 1, 1, 1), streaming(4, 5, 1, 8), streaming(4, 5, 2, 6), streaming(4, 5, 2, 6, 8), streaming(4, 9, 3, 9, 14), streaming(4, 9, 3, 9, 14, 15),
		streaming(4, 5, 64, flight(5, 40)...), streaming(4, 5, 64, flight(5, 64)...), streaming(top-4, top-3, 2, top-3, top-1), streaming(0, 1, 2, top-1),
		snapping(0, 1, 1, 0), snapping(0, 5, 2, 2), snapping(0, 5, 2, 9), snapping(4, 5, 2, 4), snapping(4, 9, 64, 6), snapping(4, 9, 2, 8), snapping(4, 9, 2, 12), snapping(4, 9, 1, 0), snapping(0, top, 2, top-1), snapping(0, 1, 1, top-1), snapping(top-1, top, 64, top-1),
	}
}
