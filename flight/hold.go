package flight

import (
	"slices"

	"jetway/api"
	"jetway/seat"
)

// isFlight tells whether there may be a flight of that number and layout.
func isFlight(number int, l api.Layout) bool {
	return number >= 1 && number <= 9999 && seat.Right(l)
}

// empty is a flight without holds.
func empty(number int, l api.Layout, limits []int) *Flight {
	l.Groups = slices.Clone(l.Groups)
	return &Flight{
		number: number,
		layout: l,
		limits: limits,
		sold:   make([]int, len(limits)),
		holds:  map[int]api.Hold{},
		owners: map[int]int{},
	}
}

// find is the seat of a label, for an owner that has a hold.
func (f *Flight) find(owner int, label string) (int, api.Errno) {
	if _, has := f.holds[owner]; !has {
		return 0, api.ErrNone
	}
	return seat.Find(f.layout, label)
}

// assign gives a seat of the layout to an owner that has a hold, if both have room.
func (f *Flight) assign(owner, n int) api.Errno {
	h := f.holds[owner]
	if len(h.Seats) == h.Many {
		return api.ErrOrder
	}
	if _, taken := f.owners[n]; taken {
		return api.ErrFull
	}
	at, _ := slices.BinarySearch(h.Seats, n)
	h.Seats = slices.Insert(h.Seats, at, n)
	f.holds[owner] = h
	f.owners[n] = owner
	return api.OK
}

// release takes from an owner a seat that is assigned to it.
func (f *Flight) release(owner, n int) {
	h := f.holds[owner]
	at, _ := slices.BinarySearch(h.Seats, n)
	h.Seats = slices.Delete(h.Seats, at, at+1)
	f.holds[owner] = h
	delete(f.owners, n)
}
