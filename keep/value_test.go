package keep

import (
	"bytes"
	"math"
	"math/rand"
	"slices"

	"jetway/api"
)

// all is the numbers of all nodes.
func all() []int { return []int{1, 2, 3, 4, 5, 6, 7, 8, 9, 10, 11, 12, 13, 14, 15} }

func someBytes(seed int64, n int) []byte {
	b := make([]byte, n)
	rand.New(rand.NewSource(seed)).Read(b)
	return b
}

func goodHards() []api.Hard {
	return []api.Hard{
		{Term: 3, Vote: 1}, {Term: 4, Vote: 2}, {Term: 0, Vote: 15}, {Term: 0, Vote: 1}, {Term: 1, Vote: 0},
		{Term: top, Vote: 0}, {Term: top, Vote: 15}, {Term: top - 1, Vote: 14}, {Term: 255, Vote: 7}, {Term: 256, Vote: 7},
	}
}

func wrongHards() []api.Hard {
	return []api.Hard{
		{Term: -1, Vote: 1}, {Term: top + 1, Vote: 1}, {Term: 1, Vote: -1}, {Term: 1, Vote: 16},
		{Term: math.MinInt, Vote: 0}, {Term: math.MaxInt, Vote: 0}, {Term: 0, Vote: math.MinInt}, {Term: 0, Vote: math.MaxInt},
		{Term: -1, Vote: 16}, {Term: 1, Vote: 257},
	}
}

func goodGroups() []api.Group {
	return []api.Group{
		{Voters: []int{1, 2}, Learners: []int{3}},
		{Voters: []int{1}},
		{Voters: []int{15}},
		{Voters: []int{15}, Learners: []int{1}},
		{Voters: all()},
		{Voters: []int{8}, Learners: slices.Delete(all(), 7, 8)},
		{Voters: []int{2, 5, 9}, Learners: []int{1, 7, 15}},
		{Voters: []int{1, 3}, Learners: []int{}},
	}
}

func wrongGroups() []api.Group {
	return []api.Group{
		{},
		{Learners: []int{1}},
		{Voters: []int{}, Learners: all()},
		{Voters: []int{0}},
		{Voters: []int{16}},
		{Voters: []int{0, 1}},
		{Voters: []int{1, 16}},
		{Voters: []int{-1, 1}},
		{Voters: []int{math.MinInt, 1}},
		{Voters: []int{1, math.MaxInt}},
		{Voters: []int{1}, Learners: []int{0}},
		{Voters: []int{1}, Learners: []int{16}},
		{Voters: []int{1}, Learners: []int{-3, 2}},
		{Voters: []int{2, 1}},
		{Voters: []int{1, 3, 2}},
		{Voters: []int{1}, Learners: []int{3, 2}},
		{Voters: []int{1, 1}},
		{Voters: []int{1, 2, 2}},
		{Voters: []int{1}, Learners: []int{2, 2}},
		{Voters: []int{1}, Learners: []int{1}},
		{Voters: []int{1, 2, 3}, Learners: []int{3, 4}},
		{Voters: []int{5, 9}, Learners: []int{1, 5}},
		{Voters: all(), Learners: []int{15}},
		{Voters: append(all(), 16)},
		{Voters: append(all(), 15)},
		{Voters: []int{1}, Learners: append(all(), 1)},
	}
}

func goodSnaps() []api.Snap {
	g := goodGroups()[0]
	l := []api.Snap{
		{Index: 5, Term: 2, Group: g, Data: []byte("x")},
		{Index: 0, Term: 0, Group: g},
		{Index: top, Term: top, Group: g, Data: []byte{0}},
		{Index: 0, Term: top, Group: g, Data: []byte{}},
		{Index: top, Term: 0, Group: g, Data: someBytes(1, 255)},
		{Index: top - 1, Term: 1, Group: g, Data: someBytes(2, 256)},
		{Index: 7, Term: 3, Group: g, Data: someBytes(3, 59999)},
		{Index: 7, Term: 3, Group: g, Data: someBytes(4, 60000)},
		{Index: top, Term: top, Group: api.Group{Voters: all()}, Data: make([]byte, 60000)},
	}
	for i, g := range goodGroups() {
		l = append(l, api.Snap{Index: 100 + i, Term: i, Group: g, Data: someBytes(int64(i), 3*i)})
	}
	return l
}

func wrongSnaps() []api.Snap {
	g := goodGroups()[0]
	l := []api.Snap{
		{},
		{Index: -1, Term: 2, Group: g},
		{Index: top + 1, Term: 2, Group: g},
		{Index: 5, Term: -1, Group: g},
		{Index: 5, Term: top + 1, Group: g},
		{Index: math.MinInt, Group: g},
		{Index: math.MaxInt, Group: g},
		{Term: math.MinInt, Group: g},
		{Term: math.MaxInt, Group: g},
		{Index: 5, Term: 2, Group: g, Data: make([]byte, 60001)},
		{Index: 5, Term: 2, Group: g, Data: make([]byte, 65536)},
		{Index: 5, Term: 2, Group: g, Data: make([]byte, 1<<20)},
	}
	for _, g := range wrongGroups() {
		l = append(l, api.Snap{Index: 5, Term: 2, Group: g, Data: []byte("x")})
	}
	return l
}

func cloneSnap(s api.Snap) api.Snap {
	s.Group = api.Group{Voters: slices.Clone(s.Group.Voters), Learners: slices.Clone(s.Group.Learners)}
	s.Data = bytes.Clone(s.Data)
	return s
}

// spoil changes every element of the lists of s.
func spoil(s api.Snap) {
	for i := range s.Group.Voters {
		s.Group.Voters[i] += 100
	}
	for i := range s.Group.Learners {
		s.Group.Learners[i] += 100
	}
	for i := range s.Data {
		s.Data[i] ^= 255
	}
}
