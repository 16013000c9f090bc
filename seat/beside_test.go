package seat_test

import (
	"slices"
	"testing"

	"jetway/api"
	"jetway/seat"
)

// P13.2, Beside

func TestBesideScenes(t *testing.T) {
	for _, c := range []struct {
		l    api.Layout
		n    int
		want []int
	}{
		{layout(2, 3, 3), 8, []int{7}},
		{layout(2, 3, 3), 7, []int{6, 8}},
		{layout(2, 3, 3), 6, []int{7}},
		{layout(2, 3, 3), 5, []int{4}},
		{layout(2, 3, 3), 3, []int{4}},
		{layout(2, 3, 3), 2, []int{1}},
		{layout(2, 3, 3), 0, []int{1}},
		{layout(2, 3, 3), 9, []int{10}},
		{layout(2, 3, 3), 11, []int{10}},
		{layout(1, 1), 0, nil},
		{layout(60, 1), 0, nil},
		{layout(60, 1), 30, nil},
		{layout(60, 1), 59, nil},
		{layout(3, 2), 2, []int{3}},
		{layout(3, 2), 3, []int{2}},
		{layout(3, 1, 1), 2, nil},
		{layout(3, 1, 1), 3, nil},
		{layout(9, 1, 1, 1, 1), 17, nil},
		{layout(1, 10), 0, []int{1}},
		{layout(1, 10), 4, []int{3, 5}},
		{layout(1, 10), 9, []int{8}},
		{layout(60, 10), 10, []int{11}},
		{layout(60, 10), 598, []int{597, 599}},
		{layout(60, 10), 599, []int{598}},
		{layout(60, 1, 2, 3, 4), 591, []int{592}},
		{layout(60, 1, 2, 3, 4), 590, nil},
		{layout(60, 1, 2, 3, 4), 594, []int{593, 595}},
		{layout(60, 1, 2, 3, 4), 595, []int{594}},
		{layout(60, 1, 2, 3, 4), 596, []int{597}},
	} {
		if b := seat.Beside(c.l, c.n); !slices.Equal(b, c.want) {
			t.Errorf("%v, beside %d: %v, want %v", c.l, c.n, b, c.want)
		}
	}
}

func TestBesideNone(t *testing.T) {
	for _, l := range []api.Layout{layout(1, 1), layout(1, 2), layout(2, 3, 3), layout(60, 10), layout(60, 3, 4, 3)} {
		for _, n := range append(far, seat.Count(l)) {
			if b := seat.Beside(l, n); (n < 0 || n >= seat.Count(l)) && len(b) > 0 {
				t.Errorf("%v, beside %d, which is no seat: %v", l, n, b)
			}
		}
	}
	for _, l := range wrong() {
		for _, n := range far {
			if b := seat.Beside(l, n); len(b) > 0 {
				t.Errorf("%v, which is not valid, beside %d: %v", l, n, b)
			}
		}
	}
}

func TestBesideOfAllLayouts(t *testing.T) {
	for _, g := range groupings() {
		for _, rows := range []int{1, 2, 3, 12} {
			l := api.Layout{Rows: rows, Groups: g}
			p, _ := lay(l)
			for n := -1; n <= len(p); n++ {
				if b := seat.Beside(l, n); !slices.Equal(b, p.beside(n)) {
					t.Fatalf("%v, beside %d: %v, want %v", l, n, b, p.beside(n))
				}
			}
		}
	}
}
