package flight

import (
	"bytes"

	"jetway/api"
	"jetway/field"
	"jetway/nest"
	"jetway/seat"
)

// Encode is a flight as bytes, Decode one of these again.
func (f *Flight) Encode() []byte {
	var b []byte
	put := func(numbers ...int) {
		for _, n := range numbers {
			b = append(b, field.Number(uint64(n))...)
		}
	}
	put(f.number, f.layout.Rows, len(f.layout.Groups))
	put(f.layout.Groups...)
	put(len(f.limits))
	put(f.limits...)
	put(len(f.holds))
	for _, h := range f.Holds() {
		put(h.Owner, h.Class, h.Many, len(h.Seats))
		put(h.Seats...)
	}
	return b
}

func Decode(b []byte) (*Flight, api.Errno) {
	r := field.New(b)
	f, right := readEmpty(r)
	// What was read may have stood in another order, or have more behind it: a flight has one code.
	if !right || !f.readHolds(r) || !bytes.Equal(f.Encode(), b) {
		return nil, api.ErrForm
	}
	return f, api.OK
}

// readEmpty takes what stands ahead of the holds, and tells whether it is a flight's.
func readEmpty(r *field.Reader) (*Flight, bool) {
	number := readNumber(r, api.MaxSeats)
	l := api.Layout{Rows: readNumber(r, api.MaxRows)}
	l.Groups = readList(r, api.MaxAcross, api.MaxAcross)
	limits := readList(r, api.MaxClass, api.MaxSeats)
	f := empty(number, l, limits)
	return f, isFlight(number, l) && nest.Right(limits, f.sold) && limits[0] == seat.Count(l)
}

// readHolds takes the holds, and tells whether each could be taken behind the others.
func (f *Flight) readHolds(r *field.Reader) bool {
	seats := f.limits[0]
	for range readNumber(r, seats) {
		owner := readNumber(r, api.MaxPnr)
		class := readNumber(r, api.MaxClass)
		many := readNumber(r, seats)
		if f.Take(owner, class, many) != api.OK {
			return false
		}
		for _, n := range readList(r, many, seats-1) {
			if f.assign(owner, n) != api.OK {
				return false
			}
		}
	}
	return true
}

// readList takes a count, and so many numbers. The count has a bound of its own, as the numbers may not be there.
func readList(r *field.Reader, longest, most int) []int {
	l := make([]int, readNumber(r, longest))
	for i := range l {
		l[i] = readNumber(r, most)
	}
	return l
}

// readNumber is 0 once there was a fault.
func readNumber(r *field.Reader, most int) int {
	return int(r.Number(uint64(most)))
}
