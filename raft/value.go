package raft

import (
	"bytes"
	"slices"

	"jetway/api"
	"jetway/quorum"
)

func validNode(n int) bool { return 1 <= n && n <= api.MaxNodes }

// validIndex holds for Terms as well.
func validIndex(n int) bool { return 0 <= n && n <= api.MaxIndex }

func validSnap(s api.Snap) bool {
	return validIndex(s.Index) && validIndex(s.Term) && quorum.Right(s.Group) && len(s.Data) <= api.MaxSnap
}

// copiedGroup and copiedSnap share no memory with what they are given.
func copiedGroup(g api.Group) api.Group {
	return api.Group{Voters: slices.Clone(g.Voters), Learners: slices.Clone(g.Learners)}
}

func copiedSnap(s api.Snap) api.Snap {
	s.Group, s.Data = copiedGroup(s.Group), bytes.Clone(s.Data)
	return s
}
