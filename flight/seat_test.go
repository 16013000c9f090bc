package flight_test

import (
	"testing"

	"jetway/api"
)

// P15.3, Seat and Unseat

// noLabels are those of no seat in two rows of the groups 3 and 3.
var noLabels = []string{
	"", " ", "1", "2", "A", "F", "A1", "0A", "00A", "01A", "3A", "10A", "12A", "60A", "61A", "1G", "2G", "1I", "2J", "1K", "1L", "1Z", "1a", "1f", " 1A", "1A ", "1 A", "1AA", "1A1", "11A", "+1A", "-1A", "1.A", "1,A",
	"\x001A", "1A\x00", "1\x00A", "1\xff", "\xff", "1\xc3\x81", "１A", "1Ａ", "1À", "１Ａ", "18446744073709551617A", "4294967297A", "257A", "1@", "1[", "None",
}

func two(t *testing.T) *pair {
	t.Helper()
	return opened(t, 1, layout(2, 3, 3), 1, 0.5)
}

func TestSeatExample(t *testing.T) {
	x := small(t)
	x.take(7, 1, 2, api.OK)
	x.seat(8, "1A", api.ErrNone)
	x.seat(7, "1A", api.OK)
	x.has(7, "1A")
}

func TestSeatScenes(t *testing.T) {
	x := two(t)
	x.take(7, 0, 3, api.OK)
	x.take(8, 1, 1, api.OK)
	x.seat(7, "2F", api.OK) // the last one
	x.has(7, "2F")
	x.seat(7, "1A", api.OK) // the first one
	x.has(7, "1A", "2F")
	x.seat(7, "1A", api.ErrFull)
	x.seat(7, "2F", api.ErrFull)
	x.seat(8, "1A", api.ErrFull)
	x.seat(8, "2F", api.ErrFull)
	x.has(8)
	x.seat(7, "2A", api.OK) // one fewer than Many were assigned
	x.has(7, "1A", "2A", "2F")
	x.seat(7, "2B", api.ErrOrder)
	x.seat(7, "2A", api.ErrOrder)
	x.seat(8, "1B", api.OK)
	x.seat(8, "1B", api.ErrOrder)
	x.seat(8, "1A", api.ErrOrder)
	x.seat(8, "1C", api.ErrOrder)
	x.seat(7, "1B", api.ErrOrder)
	x.has(8, "1B")
	x.left(8, 5)
}

// TestSeatLabels: a label of none is told ahead of all that comes behind it.
func TestSeatLabels(t *testing.T) {
	x := two(t)
	x.take(7, 0, 2, api.OK)
	x.take(8, 0, 1, api.OK)
	for _, label := range noLabels {
		x.seat(7, label, api.ErrNone)
		x.seat(9, label, api.ErrNone)
		x.unseat(7, label, api.ErrNone)
		x.unseat(9, label, api.ErrNone)
	}
	x.seat(7, "1A", api.OK)
	x.seat(8, "1B", api.OK)
	for _, label := range noLabels {
		x.seat(7, label, api.ErrNone)
		x.seat(8, label, api.ErrNone) // and has all its seats
		x.unseat(7, label, api.ErrNone)
		x.unseat(8, label, api.ErrNone)
	}
	x.has(7, "1A")
	x.has(8, "1B")
}

func TestSeatWithoutHold(t *testing.T) {
	x := two(t)
	x.take(7, 0, 2, api.OK)
	x.seat(7, "1A", api.OK)
	for _, owner := range append(far, 0, 1, 6, 8, greatest) {
		for _, label := range []string{"1A", "1B", "2F", "3A", ""} {
			x.seat(owner, label, api.ErrNone)
			x.unseat(owner, label, api.ErrNone)
		}
	}
	x.give(7, api.OK)
	x.seat(7, "1A", api.ErrNone)
	x.unseat(7, "1A", api.ErrNone)
}

// TestSeatEach: every seat of a cabin can be assigned, in either order, and is told with its label.
func TestSeatEach(t *testing.T) {
	for _, l := range []api.Layout{layout(1, 1), layout(2, 3, 3), layout(11, 1, 2, 3, 4)} {
		for _, back := range []bool{false, true} {
			x := opened(t, 1, l, 1)
			many := len(x.p.cabin)
			x.take(5, 0, many, api.OK)
			for i := range many {
				n := i
				if back {
					n = many - 1 - i
				}
				x.seat(5, x.p.cabin[n].label, api.OK)
			}
			for _, s := range x.p.cabin {
				x.seat(5, s.label, api.ErrOrder)
				x.unseat(5, s.label, api.OK)
				x.unseat(5, s.label, api.ErrNone)
				x.seat(5, s.label, api.OK)
			}
		}
	}
}

func TestUnseat(t *testing.T) {
	x := two(t)
	x.take(7, 0, 3, api.OK)
	x.take(8, 1, 1, api.OK)
	x.unseat(7, "1A", api.ErrNone) // nobody's
	x.unseat(7, "2F", api.ErrNone)
	for _, label := range []string{"1A", "1C", "2F"} {
		x.seat(7, label, api.OK)
	}
	x.seat(8, "1B", api.OK)
	x.unseat(8, "1A", api.ErrNone) // another owner's
	x.unseat(7, "1B", api.ErrNone)
	x.unseat(9, "1B", api.ErrNone) // no hold
	x.unseat(7, "2E", api.ErrNone)
	x.has(7, "1A", "1C", "2F")
	x.unseat(7, "1C", api.OK)
	x.has(7, "1A", "2F")
	x.unseat(7, "1C", api.ErrNone)
	x.unseat(7, "1A", api.OK)
	x.has(7, "2F")
	x.unseat(8, "1B", api.OK)
	x.has(8)
	x.unseat(7, "2F", api.OK)
	x.has(7)
	x.unseat(7, "2F", api.ErrNone)
	x.left(8, 5)
}

// TestUnseatMakesRoom: for another seat of the owner's, and for another owner.
func TestUnseatMakesRoom(t *testing.T) {
	x := two(t)
	x.take(7, 0, 1, api.OK)
	x.take(8, 0, 2, api.OK)
	x.seat(7, "1A", api.OK)
	x.seat(7, "1B", api.ErrOrder)
	x.seat(8, "1A", api.ErrFull)
	x.unseat(7, "1A", api.OK)
	x.seat(8, "1A", api.OK)
	x.seat(7, "1A", api.ErrFull)
	x.seat(7, "1B", api.OK)
	x.has(7, "1B")
	x.has(8, "1A")
}

// TestUnseatFirst: the owner 1 and the seat 0 are no marks of something else.
func TestUnseatFirst(t *testing.T) {
	x := two(t)
	x.take(1, 0, 1, api.OK)
	x.take(2, 0, 1, api.OK)
	x.seat(1, "1A", api.OK)
	x.unseat(2, "1A", api.ErrNone)
	x.unseat(1, "1B", api.ErrNone)
	x.unseat(0, "1B", api.ErrNone)
	x.unseat(0, "1A", api.ErrNone)
	x.unseat(1, "1A", api.OK)
	x.seat(2, "1A", api.OK)
}
