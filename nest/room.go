package nest

import (
	"cmp"
	"slices"

	"jetway/api"
)

// isCount tells whether n may be a number of seats.
func isCount(n int) bool {
	return n >= 0 && n <= api.MaxSeats
}

func areCounts(l []int) bool {
	for _, n := range l {
		if !isCount(n) {
			return false
		}
	}
	return true
}

// areLimits tells whether limits are valid.
func areLimits(limits []int) bool {
	if len(limits) < 1 || len(limits) > api.MaxClass || !areCounts(limits) {
		return false
	}
	return slices.IsSortedFunc(limits, func(a, b int) int { return cmp.Compare(b, a) })
}

// has tells whether the sales are valid for the limits, and there is such a class.
func has(limits, sold []int, class int) bool {
	return Right(limits, sold) && class >= 0 && class < len(limits)
}

// rooms are, for each class, what is left of its limit by the sales of the classes from it on.
func rooms(limits, sold []int) []int {
	total := 0
	// A class's total has those of all lower ones in it: so the lowest class comes first.
	room := func(class int) int {
		total += sold[class]
		return limits[class] - total
	}
	l := make([]int, len(limits))
	for class := range slices.Backward(limits) {
		l[class] = room(class)
	}
	return l
}

// changed are the sales with so many more of a class, as a list of their own.
func changed(sold []int, class, by int) []int {
	l := slices.Clone(sold)
	l[class] += by
	return l
}
