package flight_test

import (
	"testing"

	"jetway/api"
)

// P15.2, Take and Give

func TestTakeExample(t *testing.T) {
	x := small(t)
	x.take(7, 1, 2, api.OK)
	x.take(8, 1, 1, api.ErrFull)
	x.left(2, 0)
	x.take(8, 0, 2, api.OK)
	x.left(0, 0)
	x.take(9, 0, 1, api.ErrFull)
}

func TestTakeOwners(t *testing.T) {
	x := opened(t, 1, layout(2, 3, 3), 1, 0.5)
	for _, owner := range append(far, 0, greatest+1) {
		if !within(1, owner, greatest) {
			x.take(owner, 0, 1, api.ErrArg)
			x.take(owner, 1, 600, api.ErrArg)
		}
	}
	for _, owner := range []int{1, 2, greatest - 1, greatest} {
		x.take(owner, 0, 1, api.OK)
	}
	x.left(8, 6)
}

func TestTakeClasses(t *testing.T) {
	for classes := 1; classes <= 8; classes++ {
		parts := []float64{1, 1, 1, 1, 1, 1, 1, 1}[:classes]
		x := opened(t, 1, layout(1, 10), parts...)
		for _, class := range append(far, classes, classes+1) {
			x.take(5, class, 1, api.ErrArg)
		}
		for class := range classes {
			x.take(1+class, class, 1, api.OK)
		}
	}
}

func TestTakeMany(t *testing.T) {
	for _, c := range []struct {
		l    api.Layout
		part float64
		left int // of class 1
	}{{layout(1, 1), 1, 1}, {layout(1, 2, 2), 0.5, 2}, {layout(2, 3, 3), 0.75, 9}, {layout(60, 10), 0.9, 540}, {layout(60, 10), 1, 600}, {layout(1, 5), 0, 0}} {
		for _, many := range []int{1, 2, c.left - 1, c.left, c.left + 1, 540, 600, 601, 9999, 10000} {
			x := opened(t, 1, c.l, 1, c.part)
			switch {
			case many < 1:
				x.take(3, 1, many, api.ErrArg)
			case many <= c.left:
				x.take(3, 1, many, api.OK)
				x.take(4, 1, c.left-many+1, api.ErrFull)
			default:
				x.take(3, 1, many, api.ErrFull)
			}
		}
		x := opened(t, 1, c.l, 1, c.part)
		for _, many := range append(far, 0) {
			if !within(1, many, 10000) {
				x.take(3, 0, many, api.ErrArg)
				x.take(3, 1, many, api.ErrArg)
			}
		}
	}
}

// TestTakeFirstError: the error that is named first is told, and none changes anything.
func TestTakeFirstError(t *testing.T) {
	x := small(t)
	x.take(7, 1, 2, api.OK)
	for _, class := range []int{-1, 0, 1, 2} {
		for _, many := range []int{-1, 0, 1, 3, 10000, 10001} {
			x.take(0, class, many, api.ErrArg)
			x.take(greatest+1, class, many, api.ErrArg)
			x.take(7, class, many, api.ErrOrder)
		}
	}
	for _, many := range []int{-1, 0, 10001} {
		x.take(8, 1, many, api.ErrArg)
	}
	for _, many := range []int{1, 3, 10000} {
		x.take(8, 2, many, api.ErrArg)
		x.take(8, -1, many, api.ErrArg)
		x.take(8, 1, many, api.ErrFull)
	}
	x.left(2, 0)
}

// TestTakeAllByOne: as many owners as seats, and none more.
func TestTakeAllByOne(t *testing.T) {
	x := opened(t, 1, layout(10, 1, 2), 1)
	for owner := 30; owner >= 1; owner-- {
		x.take(owner, 0, 1, api.OK)
	}
	x.take(31, 0, 1, api.ErrFull)
	x.give(15, api.OK)
	x.take(31, 0, 1, api.OK)
	x.take(15, 0, 1, api.ErrFull)
}

// A hold begins without seats, whoever had some before.
func TestTakeIsWithoutSeats(t *testing.T) {
	x := small(t)
	x.take(7, 0, 2, api.OK)
	x.seat(7, "1B", api.OK)
	x.give(7, api.OK)
	x.take(7, 0, 2, api.OK)
	x.has(7)
	x.take(8, 0, 1, api.OK)
	x.seat(8, "1B", api.OK)
	x.has(8, "1B")
}

func TestGive(t *testing.T) {
	x := small(t)
	x.take(7, 1, 2, api.OK)
	x.take(8, 0, 1, api.OK)
	x.auto(7, api.OK, "1A", "1B")
	x.seat(8, "1C", api.OK)
	for _, owner := range append(far, 0, 1, 6, 9, greatest) {
		x.give(owner, api.ErrNone)
	}
	x.give(7, api.OK)
	x.left(3, 2)
	x.has(7)
	x.has(8, "1C")
	x.give(7, api.ErrNone)
	x.take(9, 1, 1, api.OK)
	x.seat(9, "1A", api.OK)
	x.give(8, api.OK)
	x.left(3, 1)
	x.take(7, 0, 3, api.OK)
	x.auto(7, api.OK, "1B", "1C", "1D")
	x.give(9, api.OK)
	x.give(7, api.OK)
	x.left(4, 2)
}

// TestGiveGoesToItsClass: what is given back can be sold again where it was sold.
func TestGiveGoesToItsClass(t *testing.T) {
	for class := range 3 {
		x := opened(t, 1, layout(1, 5, 5), 1, 0.6, 0.3)
		x.take(1, 0, 4, api.OK)
		x.take(2, 1, 3, api.OK)
		x.take(3, 2, 3, api.OK)
		x.left(0, 0, 0)
		x.give(class+1, api.OK)
		x.left([][]int{{4, 0, 0}, {3, 3, 0}, {3, 3, 3}}[class]...)
	}
}
