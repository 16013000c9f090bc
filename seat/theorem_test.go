package seat_test

import (
	"math/rand"
	"slices"
	"testing"

	"jetway/api"
	"jetway/seat"
)

// P13.4, by itself: nothing here asks the second reading.

func TestLabelAndFindAreInverse(t *testing.T) {
	for _, g := range groupings() {
		for rows := 1; rows <= 60; rows += 1 + rows%7 {
			l := api.Layout{Rows: rows, Groups: g}
			seen := make(map[string]int)
			for n := range seat.Count(l) {
				s, e := seat.Label(l, n)
				if e != api.OK {
					t.Fatalf("%v: seat %d has no label: %d", l, n, e)
				}
				if m, ok := seen[s]; ok {
					t.Fatalf("%v: seats %d and %d are both %s", l, m, n, s)
				}
				seen[s] = n
				if m, e := seat.Find(l, s); m != n || e != api.OK {
					t.Fatalf("%v: %d is %s, which is %d, with error %d", l, n, s, m, e)
				}
			}
		}
	}
}

// TestFindAndLabelAreInverse: what Find finds by drawn texts has just these texts as labels.
func TestFindAndLabelAreInverse(t *testing.T) {
	r := rand.New(rand.NewSource(2))
	all := groupings()
	signs := []rune("00112345678999ABCDEFGHIJKLMabk +-\u00c4\uff21\ufffd")
	found := 0
	for range 300000 {
		l := drawLayout(r, all)
		text := ""
		for range r.Intn(5) {
			text += string(signs[r.Intn(len(signs))])
		}
		n, e := seat.Find(l, text)
		if e == api.ErrNone {
			continue
		}
		found++
		if s, got := seat.Label(l, n); e != api.OK || got != api.OK || s != text {
			t.Fatalf("%v: %q is %d, with error %d, which is %q, with error %d", l, text, n, e, s, got)
		}
	}
	if found < 1000 {
		t.Error(found)
	}
}

func TestBesideIsSymmetric(t *testing.T) {
	for _, g := range groupings() {
		for _, rows := range []int{1, 2, 7, 60} {
			l := api.Layout{Rows: rows, Groups: g}
			pairs := 0
			for n := range seat.Count(l) {
				b := seat.Beside(l, n)
				for _, m := range b {
					if m == n || !slices.Contains(seat.Beside(l, m), n) {
						t.Fatalf("%v: %d is beside %d, but not %d beside %d", l, m, n, n, m)
					}
				}
				if !slices.IsSorted(b) {
					t.Fatalf("%v: beside %d: %v", l, n, b)
				}
				pairs += len(b)
			}
			// A group of so many seats has one pair fewer, each of which is met twice.
			if want := 2 * (seat.Count(l) - rows*len(g)); pairs != want {
				t.Fatalf("%v: %d, want %d", l, pairs, want)
			}
		}
	}
}

func TestBestIsFreeAndDifferent(t *testing.T) {
	r := rand.New(rand.NewSource(3))
	all := groupings()
	given := 0
	for range 20000 {
		l := drawLayout(r, all)
		taken := drawTaken(r, seat.Count(l))
		many := 1 + r.Intn(min(seat.Count(l), 1+r.Intn(600)))
		b, e := seat.Best(l, taken, many)
		if free := len(but(l, taken...)); (e == api.OK) != (many <= free) {
			t.Fatalf("%v, %v taken, %d of %d free seats: error %d", l, taken, many, free, e)
		}
		if e != api.OK {
			continue
		}
		given++
		if len(b) != many {
			t.Fatalf("%v, %v taken: %d seats, want %d", l, taken, len(b), many)
		}
		for i, n := range b {
			if n < 0 || n >= seat.Count(l) || slices.Contains(taken, n) || i > 0 && n <= b[i-1] {
				t.Fatalf("%v, %v taken, %d seats: %v", l, taken, many, b)
			}
		}
	}
	if given < 5000 {
		t.Error(given)
	}
}
