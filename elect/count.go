package elect

import (
	"jetway/api"
	"jetway/quorum"
)

// answer is what a node said, if anything.
type answer int

// The zero one is that of a node which is not in the map.
const (
	silent answer = iota
	yes
	no
)

// outcome is what the answers come to.
type outcome int

const (
	open outcome = iota
	won
	lost
)

// begin forgets all answers but its own.
func (n *Node) begin() outcome {
	clear(n.answers)
	n.answers[n.id] = yes
	return n.outcome()
}

// record notes an answer. The first one of a node holds, because ballots come twice, and late.
func (n *Node) record(b api.Ballot) outcome {
	if n.answers[b.From] == silent {
		n.answers[b.From] = no
		if b.Yes {
			n.answers[b.From] = yes
		}
	}
	return n.outcome()
}

// outcome is asked anew at each answer, one that was given before included, because the group may be another one by then.
func (n *Node) outcome() outcome {
	switch {
	case quorum.Wins(n.group, n.said(yes)):
		return won
	case quorum.Lost(n.group, n.said(no)):
		return lost
	}
	return open
}

// said are the nodes with this answer.
func (n *Node) said(a answer) []int {
	var l []int
	for node := 1; node <= api.MaxNodes; node++ {
		if n.answers[node] == a {
			l = append(l, node)
		}
	}
	return l
}
