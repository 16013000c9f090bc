package raft

import (
	"slices"

	"jetway/api"
	"jetway/field"
	"jetway/quorum"
)

// turn is the Index of an entry of Kind EntryChange in the log, and the group from it on. So no write makes it necessary to go through the whole log again.
type turn struct {
	index int
	group api.Group
}

// group is that of the whole log, committed or not.
func (n *Node) group() api.Group { return n.groupAt(n.log.Last()) }

// groupAt is what the entries up to i make of the snapshot's group.
func (n *Node) groupAt(i int) api.Group {
	for _, t := range slices.Backward(n.turns) {
		if t.index <= i {
			return t.group
		}
	}
	return n.snap.Group
}

// regroup goes through the entries from an index on, which were written.
func (n *Node) regroup(from int) {
	n.turns = slices.DeleteFunc(n.turns, func(t turn) bool { return t.index >= from })
	for _, e := range n.log.Get(from, n.log.Last()) {
		if e.Kind == api.EntryChange {
			n.turns = append(n.turns, turn{e.Index, changed(n.group(), e.Data)})
		}
	}
	n.Join(n.group())
	if n.Role() == api.Leader {
		n.meet()
	}
}

// forget lets go of the turns that the snapshot has in it.
func (n *Node) forget(i int) {
	n.turns = slices.DeleteFunc(n.turns, func(t turn) bool { return t.index <= i })
}

// changing tells whether a change is not committed yet.
func (n *Node) changing() bool {
	return slices.ContainsFunc(n.turns, func(t turn) bool { return t.index > n.log.Committed() })
}

func encodeChange(kind, node int) []byte {
	return slices.Concat(field.Number(uint64(kind)), field.Number(uint64(node)))
}

// changed is g behind an entry with this Data; behind one that is no change, or may not be made, it is the same.
func changed(g api.Group, data []byte) api.Group {
	r := field.New(data)
	kind := r.Number(api.Remove)
	node := r.Number(api.MaxNodes)
	if !r.Whole() {
		return g
	}
	h, e := quorum.Change(g, int(kind), int(node))
	if e != api.OK {
		return g
	}
	return h
}
