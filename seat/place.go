package seat

import "jetway/api"

const maxGroups = 4

// across is how many seats a row has.
func across(l api.Layout) int {
	sum := 0
	for _, size := range l.Groups {
		sum += size
	}
	return sum
}

// has tells whether a layout is valid and has a seat n.
func has(l api.Layout, n int) bool {
	return n >= 0 && n < Count(l)
}

// group is the group of seat n, of its row: its first seat, and the one behind its last.
func group(l api.Layout, n int) (first, behind int) {
	behind = n - n%across(l)
	for _, size := range l.Groups {
		first, behind = behind, behind+size
		if n < behind {
			break
		}
	}
	return first, behind
}

// free are the seats that are not taken, in ascending order.
func free(l api.Layout, taken []int) []int {
	out := make([]bool, Count(l))
	for _, n := range taken {
		if n >= 0 && n < len(out) {
			out[n] = true
		}
	}
	var seats []int
	for n := range len(out) {
		if !out[n] {
			seats = append(seats, n)
		}
	}
	return seats
}

// together is the first place in seats, which ascend, from which on so many stand beside one another in a group; 0 if there is none.
func together(l api.Layout, seats []int, many int) int {
	for i := range len(seats) - many + 1 {
		first, last := seats[i], seats[i+many-1]
		_, behind := group(l, first)
		if last == first+many-1 && last < behind {
			return i
		}
	}
	return 0
}
