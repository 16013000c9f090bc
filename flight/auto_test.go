package flight_test

import (
	"testing"

	"jetway/api"
)

// P15.3, Auto

func TestAutoExample(t *testing.T) {
	x := small(t)
	x.take(7, 1, 2, api.OK)
	x.auto(7, api.OK, "1A", "1B")
	x.has(7, "1A", "1B")
	x.left(2, 0)
}

func TestAutoErrors(t *testing.T) {
	x := two(t)
	x.take(7, 0, 3, api.OK)
	for _, owner := range append(far, 0, 1, 6, 8, greatest) {
		x.auto(owner, api.ErrNone)
	}
	x.seat(7, "1B", api.OK)
	x.auto(7, api.ErrOrder)
	x.has(7, "1B")
	x.seat(7, "2B", api.OK)
	x.auto(7, api.ErrOrder)
	x.seat(7, "2C", api.OK)
	x.auto(7, api.ErrOrder)
	x.unseat(7, "1B", api.OK)
	x.unseat(7, "2C", api.OK)
	x.auto(7, api.ErrOrder)
	x.unseat(7, "2B", api.OK)
	x.auto(7, api.OK, "1A", "1B", "1C")
	x.auto(7, api.ErrOrder)
	x.give(7, api.OK)
	x.auto(7, api.ErrNone)
}

func TestAutoChoice(t *testing.T) {
	for _, c := range []struct {
		what  string
		taken []string // one owner each
		many  int
		want  []string
	}{
		{"all are free", nil, 1, []string{"1A"}},
		{"all are free", nil, 3, []string{"1A", "1B", "1C"}},
		{"no group has four", nil, 4, []string{"1A", "1B", "1C", "1D"}},
		{"chapter 13's", []string{"1A", "1B", "1C", "1E"}, 2, []string{"2A", "2B"}},
		{"chapter 13's", []string{"1B"}, 2, []string{"1D", "1E"}},
		{"the first is taken", []string{"1A"}, 2, []string{"1B", "1C"}},
		{"the first is taken", []string{"1A"}, 3, []string{"1D", "1E", "1F"}},
		{"not beside one another over the aisle", []string{"1A", "1B", "1E", "1F"}, 2, []string{"2A", "2B"}},
		{"strewn", []string{"1B", "1E", "2B", "2E"}, 2, []string{"1A", "1C"}},
		{"all seats", nil, 12, []string{"1A", "1B", "1C", "1D", "1E", "1F", "2A", "2B", "2C", "2D", "2E", "2F"}},
		{"just as many free ones", []string{"1A", "1C", "1E", "2A", "2B", "2D", "2E", "2F"}, 4, []string{"1B", "1D", "1F", "2C"}},
		{"just one free one, the first", []string{"1B", "1C", "1D", "1E", "1F", "2A", "2B", "2C", "2D", "2E", "2F"}, 1, []string{"1A"}},
		{"just one free one, the last", []string{"1A", "1B", "1C", "1D", "1E", "1F", "2A", "2B", "2C", "2D", "2E"}, 1, []string{"2F"}},
	} {
		t.Run(c.what, func(t *testing.T) {
			x := two(t)
			for i, label := range c.taken {
				x.take(100-i, 0, 1, api.OK)
				x.seat(100-i, label, api.OK)
			}
			x.take(greatest, 0, c.many, api.OK)
			x.auto(greatest, api.OK, c.want...)
			x.has(greatest, c.want...)
		})
	}
}

// TestAutoLabelsInOrder: by seats, not by letters.
func TestAutoLabelsInOrder(t *testing.T) {
	x := opened(t, 1, layout(12, 1), 1)
	x.take(3, 0, 1, api.OK)
	x.seat(3, "5A", api.OK)
	x.take(4, 0, 11, api.OK)
	x.auto(4, api.OK, "1A", "2A", "3A", "4A", "6A", "7A", "8A", "9A", "10A", "11A", "12A")
}

// TestAutoOfOthers: holds that have no seats yet take none, and still find theirs.
func TestAutoOfOthers(t *testing.T) {
	x := two(t)
	for owner, many := range []int{5, 4, 3} {
		x.take(owner+1, 0, many, api.OK)
	}
	x.auto(3, api.OK, "1A", "1B", "1C")
	x.auto(1, api.OK, "1D", "1E", "1F", "2A", "2B")
	x.auto(2, api.OK, "2C", "2D", "2E", "2F")
	x.give(3, api.OK)
	x.take(3, 0, 2, api.OK)
	x.auto(3, api.OK, "1A", "1B")
}

func TestAutoOfTheGreatest(t *testing.T) {
	x := opened(t, 9999, layout(60, 10), 1, 1)
	x.take(5, 1, 600, api.OK)
	if labels, e := x.autoOf(5); e != api.OK || len(labels) != 600 || labels[0] != "1A" || labels[599] != "60K" {
		t.Fatal(e, labels)
	}
	x.seat(5, "60K", api.ErrOrder)
	x.unseat(5, "60K", api.OK)
	x.seat(5, "60K", api.OK)
}
