package quorum

import (
	"fmt"
	"maps"
	"slices"

	"jetway/api"
)

// This file follows the document's words by other means than the package does: a group is a value that says of each node what it is, and numbers are found by trying one after the other.

type role byte

const (
	stranger role = iota
	voter
	learner
)

// plain says what each node from 1 to 15 is; place 0 is no node.
type plain [16]role

// read is the plain group of a given one, and whether it is valid.
func read(g api.Group) (plain, bool) {
	var p plain
	for r, l := range map[role][]int{voter: g.Voters, learner: g.Learners} {
		for i, n := range l {
			if n < 1 || n > 15 || p[n] != stranger {
				return plain{}, false
			}
			for _, m := range l[:i] {
				if m >= n {
					return plain{}, false
				}
			}
			p[n] = r
		}
	}
	return p, p.voters() > 0
}

func (p plain) list(r role) []int {
	var l []int
	for n := range p {
		if p[n] == r && n > 0 {
			l = append(l, n)
		}
	}
	return l
}

func (p plain) group() api.Group {
	return api.Group{Voters: p.list(voter), Learners: p.list(learner)}
}

func (p plain) String() string {
	return fmt.Sprintf("voters %v, learners %v", p.list(voter), p.list(learner))
}

func (p plain) voters() int {
	n := 0
	for _, r := range p {
		if r == voter {
			n++
		}
	}
	return n
}

// need is the least number that is more than half of the voters.
func (p plain) need() int {
	n := 0
	for 2*n <= p.voters() {
		n++
	}
	return n
}

// among counts the voters that occur in l.
func (p plain) among(l []int) int {
	occur := map[int]bool{}
	for _, n := range l {
		if n >= 1 && n <= 15 && p[n] == voter {
			occur[n] = true
		}
	}
	return len(occur)
}

func (p plain) wins(l []int) bool { return p.among(l) >= p.need() }

// lost asks whether the voters that are not in l are too few.
func (p plain) lost(l []int) bool {
	var rest []int
	for _, n := range p.list(voter) {
		if !slices.Contains(l, n) {
			rest = append(rest, n)
		}
	}
	return len(rest) < p.need()
}

// least counts the voters that have at least n.
func (p plain) least(at [16]int, n int) int {
	many := 0
	for _, v := range p.list(voter) {
		if at[v] >= n {
			many++
		}
	}
	return many
}

// middle tries each voter's value: above the greatest that enough of them have, a number is only had by those who have the next value.
func (p plain) middle(at [16]int) int {
	enough := map[int]bool{}
	for _, v := range p.list(voter) {
		if p.least(at, at[v]) >= p.need() {
			enough[at[v]] = true
		}
	}
	return slices.Max(slices.Collect(maps.Keys(enough)))
}

func (p plain) change(kind, node int) (plain, api.Errno) {
	if kind < 1 || kind > 3 || node < 1 || node > 15 {
		return plain{}, api.ErrArg
	}
	was := p[node]
	switch {
	case kind == 1 && was == stranger:
		p[node] = learner
	case kind == 2 && was == learner:
		p[node] = voter
	case kind == 3 && was == learner, kind == 3 && was == voter && p.voters() > 1:
		p[node] = stranger
	default:
		return plain{}, api.ErrOrder
	}
	return p, api.OK
}

// groups are all groups of the nodes given, those without a voter too.
func groups(nodes ...int) []plain {
	all := []plain{{}}
	for _, n := range nodes {
		for _, p := range all {
			for _, r := range []role{voter, learner} {
				p[n] = r
				all = append(all, p)
			}
		}
	}
	return all
}

// valid are those of them that have a voter.
func valid(nodes ...int) []plain {
	return slices.DeleteFunc(groups(nodes...), func(p plain) bool { return p.voters() == 0 })
}

// upTo are the nodes from 1 to n.
func upTo(n int) []int {
	var l []int
	for i := range n {
		l = append(l, i+1)
	}
	return l
}

// lists are all lists of at most so many of these numbers, each as often as it likes.
func lists(most int, numbers ...int) [][]int {
	all := [][]int{nil}
	ahead := all
	for range most {
		var longer [][]int
		for _, l := range ahead {
			for _, n := range numbers {
				longer = append(longer, append(slices.Clone(l), n))
			}
		}
		all = append(all, longer...)
		ahead = longer
	}
	return all
}

// subsets are all lists of these numbers in which each occurs once or not at all.
func subsets(numbers []int) [][]int {
	all := [][]int{nil}
	for _, n := range numbers {
		for _, l := range all {
			all = append(all, append(slices.Clone(l), n))
		}
	}
	return all
}
