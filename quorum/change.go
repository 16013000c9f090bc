package quorum

import (
	"slices"

	"jetway/api"
)

// Change is a group in which one node is another thing.
func Change(g api.Group, kind, node int) (api.Group, api.Errno) {
	if !Right(g) || kind < api.AddLearner || kind > api.Remove || node < 1 || node > api.MaxNodes {
		return api.Group{}, api.ErrArg
	}
	if !may(g, kind, node) {
		return api.Group{}, api.ErrOrder
	}
	h := api.Group{Voters: without(g.Voters, node), Learners: without(g.Learners, node)}
	switch kind {
	case api.AddLearner:
		h.Learners = with(h.Learners, node)
	case api.Promote:
		h.Voters = with(h.Voters, node)
	}
	return h, api.OK
}

// may tells whether a node is what it must be for a change of this kind.
func may(g api.Group, kind, node int) bool {
	votes, learns := slices.Contains(g.Voters, node), slices.Contains(g.Learners, node)
	switch kind {
	case api.AddLearner:
		return !votes && !learns
	case api.Promote:
		return learns
	default:
		// Without the last voter nobody could decide anything, not even who votes.
		return learns || votes && len(g.Voters) > 1
	}
}

// with is a new list, still ascending, that has a node as well; without is one that has it no more.
func with(l []int, node int) []int {
	at, _ := slices.BinarySearch(l, node)
	return slices.Concat(l[:at], []int{node}, l[at:])
}

func without(l []int, node int) []int {
	var rest []int
	for _, n := range l {
		if n != node {
			rest = append(rest, n)
		}
	}
	return rest
}
