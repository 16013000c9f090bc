package elect

import "jetway/api"

// entry is the last one of a node's own log.
type entry struct{ index, term int }

// newer tells whether a log that ends with this entry is newer than that of who sent the ballot.
func (own entry) newer(b api.Ballot) bool {
	return own.term > b.LogTerm || own.term == b.LogTerm && own.index > b.Index
}

// hope begins a pre-vote.
func (n *Node) hope(own entry) []api.Ballot {
	n.role, n.leader = api.Hopeful, 0
	if n.begin() == won {
		return n.run(own)
	}
	return n.askAll(api.Pre, n.hard.Term+1, own)
}

// run begins a vote, unless there is no term left for it.
func (n *Node) run(own entry) []api.Ballot {
	if n.hard.Term == api.MaxIndex {
		n.role = api.Follower
		return nil
	}
	n.hard = api.Hard{Term: n.hard.Term + 1, Vote: n.id}
	n.role = api.Candidate
	if n.begin() == won {
		n.lead()
		return nil
	}
	return n.askAll(api.Ask, n.hard.Term, own)
}

func (n *Node) lead() { n.role, n.leader = api.Leader, n.id }

func (n *Node) stepDown(term int) {
	n.hard = api.Hard{Term: term}
	n.role, n.leader = api.Follower, 0
	clear(n.answers)
}

func (n *Node) askAll(kind, term int, own entry) []api.Ballot {
	var l []api.Ballot
	for _, v := range n.group.Voters {
		if v != n.id {
			l = append(l, api.Ballot{Kind: kind, From: n.id, To: v, Term: term, Index: own.index, LogTerm: own.term})
		}
	}
	return l
}

func (n *Node) takePre(b api.Ballot, own entry) []api.Ballot {
	// A node that hears its leader refuses, so that one that was cut off does not disturb the others.
	free := n.leader == 0 || n.waited >= n.patience
	granted := free && b.Term > n.hard.Term && !own.newer(b)
	term := n.hard.Term
	if granted {
		term = b.Term
	}
	return []api.Ballot{{Kind: api.PreSay, From: n.id, To: b.From, Term: term, Yes: granted}}
}

func (n *Node) takePreSay(b api.Ballot, own entry) []api.Ballot {
	if !b.Yes && b.Term > n.hard.Term {
		n.stepDown(b.Term)
		return nil
	}
	// A no has the term of who says it, whatever was asked; a yes to what was asked in another term is none to this.
	if n.role != api.Hopeful || b.Yes && b.Term != n.hard.Term+1 {
		return nil
	}
	switch n.record(b) {
	case won:
		return n.run(own)
	case lost:
		n.role = api.Follower
	}
	return nil
}

func (n *Node) takeAsk(b api.Ballot, own entry) []api.Ballot {
	if b.Term > n.hard.Term {
		n.stepDown(b.Term)
	}
	free := n.hard.Vote == 0 || n.hard.Vote == b.From
	granted := free && b.Term == n.hard.Term && !own.newer(b)
	if granted {
		n.grant(b.From)
	}
	return []api.Ballot{{Kind: api.Say, From: n.id, To: b.From, Term: n.hard.Term, Yes: granted}}
}

// grant gives a node the vote.
func (n *Node) grant(to int) {
	n.hard.Vote = to
	n.waited = 0
	if n.role == api.Hopeful {
		n.role = api.Follower
	}
}

func (n *Node) takeSay(b api.Ballot) {
	if b.Term > n.hard.Term {
		n.stepDown(b.Term)
		return
	}
	if n.role != api.Candidate || b.Term != n.hard.Term {
		return
	}
	switch n.record(b) {
	case won:
		n.lead()
	case lost:
		n.role = api.Follower
	}
}
