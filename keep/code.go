package keep

import (
	"slices"

	"jetway/api"
	"jetway/field"
)

func encodeHard(h api.Hard) ([]byte, api.Errno) {
	if !validHard(h) {
		return nil, api.ErrArg
	}
	return numbers(h.Term, h.Vote), api.OK
}

func decodeHard(b []byte) (api.Hard, api.Errno) {
	r := field.New(b)
	var h api.Hard
	h.Term = readNumber(r, api.MaxIndex)
	h.Vote = readNumber(r, api.MaxNodes)
	if !r.Whole() {
		return api.Hard{}, api.ErrForm
	}
	return h, api.OK
}

// Encode is a snapshot as bytes, Decode one of these again.
func Encode(s api.Snap) ([]byte, api.Errno) {
	if !validSnap(s) {
		return nil, api.ErrArg
	}
	return slices.Concat(
		numbers(s.Index, s.Term),
		list(s.Group.Voters),
		list(s.Group.Learners),
		field.Text(s.Data),
	), api.OK
}

func Decode(b []byte) (api.Snap, api.Errno) {
	r := field.New(b)
	var s api.Snap
	s.Index = readNumber(r, api.MaxIndex)
	s.Term = readNumber(r, api.MaxIndex)
	s.Group.Voters = readList(r)
	s.Group.Learners = readList(r)
	s.Data = r.Text(api.MaxSnap)
	// Asked too, because the reader holds each number against its bounds, but not one against another.
	if !r.Whole() || !validSnap(s) {
		return api.Snap{}, api.ErrForm
	}
	return s, api.OK
}

func validHard(h api.Hard) bool {
	return validIndex(h.Term) && 0 <= h.Vote && h.Vote <= api.MaxNodes
}

func validSnap(s api.Snap) bool {
	return validIndex(s.Index) && validIndex(s.Term) && validGroup(s.Group) && len(s.Data) <= api.MaxSnap
}

// validIndex holds for Terms as well.
func validIndex(n int) bool { return 0 <= n && n <= api.MaxIndex }

func validGroup(g api.Group) bool {
	if len(g.Voters) == 0 || !validNodes(g.Voters) || !validNodes(g.Learners) {
		return false
	}
	return !slices.ContainsFunc(g.Voters, func(n int) bool { return slices.Contains(g.Learners, n) })
}

// validNodes tells whether these are numbers of nodes, each above the one ahead of it.
func validNodes(l []int) bool {
	before := 0
	for _, n := range l {
		if n <= before || n > api.MaxNodes {
			return false
		}
		before = n
	}
	return true
}

func numbers(l ...int) []byte {
	var b []byte
	for _, n := range l {
		b = append(b, field.Number(uint64(n))...)
	}
	return b
}

// list is the encoding of how many numbers there are, and of each; readList reads it.
func list(l []int) []byte { return append(numbers(len(l)), numbers(l...)...) }

func readList(r *field.Reader) []int {
	var l []int
	// No valid list is longer than there are nodes.
	for range readNumber(r, api.MaxNodes) {
		l = append(l, readNumber(r, api.MaxNodes))
	}
	return l
}

func readNumber(r *field.Reader, most uint64) int { return int(r.Number(most)) }
