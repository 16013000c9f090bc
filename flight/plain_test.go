package flight_test

import (
	"cmp"
	"encoding/binary"
	"math"
	"slices"
	"strconv"
	"strings"

	"jetway/api"
)

// This file follows the chapter's words by other means than the package does: a cabin is a list of places, each with its label and its owner written in, holds are a list in the order in which they were taken, and all else is counted out of these two.

type place struct {
	row, group, owner int // owner 0 is nobody
	label             string
}

type party struct {
	owner, class, many int
}

type plain struct {
	number int
	layout api.Layout
	limits []int
	cabin  []place
	taken  []party
}

// cabinOf are the places of a layout, none if it is not valid.
func cabinOf(l api.Layout) []place {
	across := 0
	for _, size := range l.Groups {
		if !within(1, size, 10) || len(l.Groups) > 4 {
			return nil
		}
		across += size
	}
	if across > 10 || l.Rows > 60 {
		return nil
	}
	var cabin []place
	for row := 1; row <= l.Rows; row++ {
		letters := "ABCDEFGHJK"
		for group, size := range l.Groups {
			for range size {
				cabin = append(cabin, place{row, group, 0, strconv.Itoa(row) + letters[:1]})
				letters = letters[1:]
			}
		}
	}
	return cabin
}

func within(low, n, high int) bool { return low <= n && n <= high }

// limitsOf are the limits of parts of so many seats, that are from 1 to 10000.
func limitsOf(seats int, parts []float64) []int {
	var limits []int
	for i, part := range parts {
		level := 0.0
		if part > 0 {
			level = math.Floor(min(part, 1) * float64(seats))
		}
		if i == 0 {
			level = float64(seats)
		}
		limits = append(limits, int(level))
		limits[i] = slices.Min(limits)
	}
	return limits
}

func plainNew(number int, l api.Layout, parts []float64) (*plain, api.Errno) {
	cabin := cabinOf(l)
	if !within(1, number, 9999) || len(cabin) == 0 || !within(1, len(parts), 8) {
		return nil, api.ErrArg
	}
	return &plain{number, l, limitsOf(len(cabin), parts), cabin, nil}, api.OK
}

// sold are the sales of each class.
func (p *plain) sold() []int {
	l := make([]int, len(p.limits))
	for _, h := range p.taken {
		l[h.class] += h.many
	}
	return l
}

func (p *plain) left() []int {
	var l []int
	least := math.MaxInt
	for k, limit := range p.limits {
		for _, many := range p.sold()[k:] {
			limit -= many
		}
		least = min(least, limit)
		l = append(l, least)
	}
	return l
}

// hold is where an owner's hold is, or -1.
func (p *plain) hold(owner int) int {
	return slices.IndexFunc(p.taken, func(h party) bool { return h.owner == owner })
}

// seats are those of an owner; 0 has the free ones.
func (p *plain) seats(owner int) []int {
	var l []int
	for n, s := range p.cabin {
		if s.owner == owner {
			l = append(l, n)
		}
	}
	return l
}

func (p *plain) labels(owner int) []string {
	var l []string
	if p.hold(owner) < 0 {
		return nil
	}
	for _, n := range p.seats(owner) {
		l = append(l, p.cabin[n].label)
	}
	return l
}

func (p *plain) take(owner, class, many int) api.Errno {
	switch {
	case !within(1, owner, 28629151):
		return api.ErrArg
	case p.hold(owner) >= 0:
		return api.ErrOrder
	case !within(0, class, len(p.limits)-1) || !within(1, many, 10000):
		return api.ErrArg
	case many > p.left()[class]:
		return api.ErrFull
	}
	p.taken = append(p.taken, party{owner, class, many})
	return api.OK
}

func (p *plain) give(owner int) api.Errno {
	i := p.hold(owner)
	if i < 0 {
		return api.ErrNone
	}
	for _, n := range p.seats(owner) {
		p.cabin[n].owner = 0
	}
	p.taken = slices.Concat(p.taken[:i], p.taken[i+1:])
	return api.OK
}

// find is the number of a label's seat, or -1.
func (p *plain) find(label string) int {
	return slices.IndexFunc(p.cabin, func(s place) bool { return s.label == label })
}

func (p *plain) seat(owner int, label string) api.Errno {
	i, n := p.hold(owner), p.find(label)
	switch {
	case i < 0 || n < 0:
		return api.ErrNone
	case len(p.seats(owner)) == p.taken[i].many:
		return api.ErrOrder
	case p.cabin[n].owner != 0:
		return api.ErrFull
	}
	p.cabin[n].owner = owner
	return api.OK
}

func (p *plain) unseat(owner int, label string) api.Errno {
	i, n := p.hold(owner), p.find(label)
	if i < 0 || n < 0 || p.cabin[n].owner != owner {
		return api.ErrNone
	}
	p.cabin[n].owner = 0
	return api.OK
}

func (p *plain) auto(owner int) ([]string, api.Errno) {
	i := p.hold(owner)
	if i < 0 {
		return nil, api.ErrNone
	}
	if len(p.seats(owner)) > 0 {
		return nil, api.ErrOrder
	}
	for _, n := range p.best(p.taken[i].many) {
		p.cabin[n].owner = owner
	}
	return p.labels(owner), api.OK
}

// best are the first free seats beside one another, or else the first free ones.
func (p *plain) best(many int) []int {
	free := p.seats(0)
	for i := 0; i+many <= len(free); i++ {
		first, last := free[i], free[i+many-1]
		a, b := p.cabin[first], p.cabin[last]
		if last-first == many-1 && a.row == b.row && a.group == b.group {
			return free[i : i+many]
		}
	}
	return free[:many]
}

func (p *plain) holds() []api.Hold {
	var l []api.Hold
	for _, h := range p.taken {
		l = append(l, api.Hold{Owner: h.owner, Class: h.class, Many: h.many, Seats: p.seats(h.owner)})
	}
	slices.SortFunc(l, func(a, b api.Hold) int { return cmp.Compare(a.Owner, b.Owner) })
	return l
}

// A code is what Encode tells, valid or not, with nothing worked out.
type code struct {
	number, rows   int
	groups, limits []int
	holds          []api.Hold
}

func (p *plain) code() code {
	return code{p.number, p.layout.Rows, p.layout.Groups, p.limits, p.holds()}
}

func number(n uint64) string {
	digits := strings.TrimLeft(string(binary.BigEndian.AppendUint64(nil, n)), "\x00")
	return string([]byte{byte(len(digits))}) + digits
}

// numbers are those that the code is made of.
func (c code) numbers() []int {
	l := append([]int{c.number, c.rows, len(c.groups)}, c.groups...)
	l = append(append(l, len(c.limits)), c.limits...)
	l = append(l, len(c.holds))
	for _, h := range c.holds {
		l = append(append(l, h.Owner, h.Class, h.Many, len(h.Seats)), h.Seats...)
	}
	return l
}

func (c code) bytes() string { return join(c.numbers()) }

func join(numbers []int) string {
	b := ""
	for _, n := range numbers {
		b += number(uint64(n))
	}
	return b
}

// loose takes numbers from the front of bytes without asking whether they have the form: whoever uses it must encode what it says again.
type loose struct{ rest string }

func (l *loose) take(n int) string {
	n = min(n, len(l.rest))
	b := l.rest[:n]
	l.rest = l.rest[n:]
	return b
}

func (l *loose) number() int {
	n := 0
	if first := l.take(1); first != "" {
		for _, c := range []byte(l.take(int(first[0]))) {
			n = n<<8 | int(c)
		}
	}
	return n
}

func (l *loose) list() []int {
	var out []int
	for i, n := 0, l.number(); i < n && l.rest != ""; i++ {
		out = append(out, l.number())
	}
	return out
}

func plainCode(b string) code {
	l := &loose{b}
	c := code{number: l.number(), rows: l.number()}
	c.groups = l.list()
	c.limits = l.list()
	for i, n := 0, l.number(); i < n && l.rest != ""; i++ {
		c.holds = append(c.holds, api.Hold{Owner: l.number(), Class: l.number(), Many: l.number(), Seats: l.list()})
	}
	return c
}

// plainOf is the valid flight of a code, if there is one: each condition is asked by itself.
func plainOf(c code) (*plain, bool) {
	p := &plain{c.number, api.Layout{Rows: c.rows, Groups: c.groups}, c.limits, nil, nil}
	p.cabin = cabinOf(p.layout)
	descends := func(a, b int) int { return cmp.Compare(b, a) }
	if !within(1, c.number, 9999) || len(p.cabin) == 0 || !within(1, len(c.limits), 8) || c.limits[0] != len(p.cabin) || !slices.IsSortedFunc(c.limits, descends) || slices.Min(c.limits) < 0 {
		return nil, false
	}
	last, all := 0, 0
	for _, h := range c.holds {
		all += max(0, min(h.Many, 601))
		if h.Owner <= last || h.Owner > 28629151 || !within(0, h.Class, len(c.limits)-1) || h.Many < 1 || all > len(p.cabin) || len(h.Seats) > h.Many || !p.mark(h) {
			return nil, false
		}
		last = h.Owner
		p.taken = append(p.taken, party{h.Owner, h.Class, h.Many})
	}
	return p, slices.Min(p.left()) >= 0
}

// mark writes an owner into its places, and tells whether they are there, free and in order.
func (p *plain) mark(h api.Hold) bool {
	for i, n := range h.Seats {
		if !within(0, n, len(p.cabin)-1) || p.cabin[n].owner != 0 || i > 0 && h.Seats[i-1] >= n {
			return false
		}
		p.cabin[n].owner = h.Owner
	}
	return true
}

// plainDecode is the valid flight of which b are the bytes, if there is one.
func plainDecode(b string) (*plain, bool) {
	c := plainCode(b)
	if c.bytes() != b {
		return nil, false
	}
	return plainOf(c)
}
