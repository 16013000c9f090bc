package seat_test

import (
	"slices"
	"strings"

	"jetway/api"
)

// This file follows the document's words by other means than the package does: a cabin is a list of all its seats, each with its row, group and label written out, and everything is found by looking at one seat after the other.

type place struct {
	row, group int // of the row; both from 0 on
	label      string
}

// plain is a cabin; one that is not valid has no seats.
type plain []place

// numbers are the rows as labels have them.
var numbers = strings.Fields(`
	1 2 3 4 5 6 7 8 9 10 11 12 13 14 15 16 17 18 19 20
	21 22 23 24 25 26 27 28 29 30 31 32 33 34 35 36 37 38 39 40
	41 42 43 44 45 46 47 48 49 50 51 52 53 54 55 56 57 58 59 60`)

var letters = []string{"A", "B", "C", "D", "E", "F", "G", "H", "J", "K"}

// lay is the cabin of a layout, and whether that is valid.
func lay(l api.Layout) (plain, bool) {
	if !slices.Contains([]int{1, 2, 3, 4}, len(l.Groups)) || l.Rows <= 0 || l.Rows >= 61 {
		return nil, false
	}
	room := 10
	for _, size := range l.Groups {
		if size <= 0 || size > room {
			return nil, false
		}
		room -= size
	}
	var p plain
	for row := 0; row < l.Rows; row++ {
		column := 0
		for g, size := range l.Groups {
			for i := 0; i < size; i++ {
				p = append(p, place{row, g, numbers[row] + letters[column]})
				column++
			}
		}
	}
	return p, true
}

func (p plain) find(label string) int {
	return slices.IndexFunc(p, func(s place) bool { return s.label == label })
}

// near tells whether a seat's neighbour to the right is the other one.
func (p plain) near(left, right int) bool {
	return right == left+1 && p[left].row == p[right].row && p[left].group == p[right].group
}

func (p plain) beside(n int) []int {
	var l []int
	for m := range p {
		if n >= 0 && n < len(p) && (p.near(m, n) || p.near(n, m)) {
			l = append(l, m)
		}
	}
	return l
}

// best is what Best returns, for a cabin that is valid.
func (p plain) best(taken []int, many int) ([]int, api.Errno) {
	if many <= 0 || many > len(p) {
		return nil, api.ErrArg
	}
	free := make(map[int]bool)
	for n := range p {
		free[n] = true
	}
	for _, n := range taken {
		delete(free, n)
	}
	if len(free) < many {
		return nil, api.ErrFull
	}
	for n := range p {
		if l := p.run(n, free); len(l) >= many {
			return l[:many], api.OK
		}
	}
	var l []int
	for n := range p {
		if free[n] && len(l) < many {
			l = append(l, n)
		}
	}
	return l, api.OK
}

// run are the free seats from one on to the right, as far as they are beside one another.
func (p plain) run(n int, free map[int]bool) []int {
	var l []int
	for free[n] {
		l = append(l, n)
		if n+1 == len(p) || !p.near(n, n+1) {
			break
		}
		n++
	}
	return l
}
