package elect

import (
	"slices"

	"jetway/api"
)

// This file follows the document's words by other means than the package does: a node is a value that is made anew by each call; who is in its group, and what each node has said, stands in arrays, and majorities are counted by doubling.

const top = 1 << 40 // the greatest term

type member byte

const (
	stranger member = iota
	voter
	learner
)

type plain struct {
	id, patience  int
	term, vote    int
	members       [16]member
	role, leader  int
	waited, limit int
	said          [16]int8 // 1: yes, -1: no
}

func within(low, n, high int) bool { return low <= n && n <= high }

// plainMembers says of each node what it is in a group, and whether the group is valid.
func plainMembers(g api.Group) ([16]member, bool) {
	var all [16]member
	for m, l := range map[member][]int{voter: g.Voters, learner: g.Learners} {
		for i, n := range l {
			if !within(1, n, 15) || all[n] != stranger || i > 0 && l[i-1] > n {
				return [16]member{}, false
			}
			all[n] = m
		}
	}
	return all, slices.Contains(all[:], voter)
}

func plainNew(id int, h api.Hard, g api.Group, patience int) (plain, api.Errno) {
	all, ok := plainMembers(g)
	if !ok || !within(1, id, 15) || !within(0, h.Term, top) || !within(0, h.Vote, 15) || !within(1, patience, 1000) {
		return plain{}, api.ErrArg
	}
	return plain{id: id, patience: patience, term: h.Term, vote: h.Vote, members: all, limit: patience}, api.OK
}

func (p plain) join(g api.Group) (plain, api.Errno) {
	all, ok := plainMembers(g)
	if !ok {
		return p, api.ErrArg
	}
	p.members = all
	return p, api.OK
}

func (p plain) hard() api.Hard { return api.Hard{Term: p.term, Vote: p.vote} }

func (p plain) view() view { return view{p.hard(), p.role, p.leader} }

// count tells whether those who said yes are a majority, and whether those who said no prevent one.
func (p plain) count() (won, lost bool) {
	voters, yes, no := 0, 0, 0
	for n, m := range p.members {
		if m != voter {
			continue
		}
		voters++
		switch p.said[n] {
		case 1:
			yes++
		case -1:
			no++
		}
	}
	return 2*yes > voters, 2*(voters-no) <= voters
}

// alone is p when only itself said yes.
func (p plain) alone() plain {
	p.said = [16]int8{}
	p.said[p.id] = 1
	return p
}

func (p plain) ask(kind, term, last, lastTerm int) []api.Ballot {
	var l []api.Ballot
	for n, m := range p.members {
		if m == voter && n != p.id {
			l = append(l, api.Ballot{Kind: kind, From: p.id, To: n, Term: term, Index: last, LogTerm: lastTerm})
		}
	}
	return l
}

func (p plain) stepDown(term int) plain {
	p.term, p.vote, p.role, p.leader = term, 0, api.Follower, 0
	p.said = [16]int8{}
	return p
}

func (p plain) run(last, lastTerm int) (plain, []api.Ballot) {
	if p.term == top {
		p.role = api.Follower
		return p, nil
	}
	p.term, p.vote, p.role = p.term+1, p.id, api.Candidate
	p = p.alone()
	if won, _ := p.count(); won {
		p.role, p.leader = api.Leader, p.id
		return p, nil
	}
	return p, p.ask(api.Ask, p.term, last, lastTerm)
}

func (p plain) tick(draw, last, lastTerm int) (plain, []api.Ballot) {
	if p.role == api.Leader {
		return p, nil
	}
	p.waited++
	if p.waited < p.limit || p.members[p.id] != voter {
		return p, nil
	}
	p.waited, p.limit = 0, p.patience
	if draw > 0 {
		p.limit += draw - draw/p.patience*p.patience
	}
	p.role, p.leader = api.Hopeful, 0
	p = p.alone()
	if won, _ := p.count(); won {
		return p.run(last, lastTerm)
	}
	return p, p.ask(api.Pre, p.term+1, last, lastTerm)
}

func (p plain) take(b api.Ballot, last, lastTerm int) (plain, []api.Ballot) {
	if b.To != p.id || !within(1, b.From, 15) || b.From == p.id || !within(0, b.Term, top) || !within(1, b.Kind, 4) {
		return p, nil
	}
	notNewer := slices.Compare([]int{b.LogTerm, b.Index}, []int{lastTerm, last}) >= 0
	answer := api.Ballot{Kind: b.Kind + 1, From: p.id, To: b.From}
	switch b.Kind {
	case api.Pre:
		answer.Yes = b.Term > p.term && notNewer && (p.leader == 0 || p.waited >= p.patience)
		answer.Term = p.term
		if answer.Yes {
			answer.Term = b.Term
		}
		return p, []api.Ballot{answer}
	case api.Ask:
		if b.Term > p.term {
			p = p.stepDown(b.Term)
		}
		answer.Yes = b.Term == p.term && (p.vote == 0 || p.vote == b.From) && notNewer
		answer.Term = p.term
		if answer.Yes {
			p.vote, p.waited = b.From, 0
			if p.role == api.Hopeful {
				p.role = api.Follower
			}
		}
		return p, []api.Ballot{answer}
	}
	return p.hear(b, last, lastTerm)
}

// hear takes an answer.
func (p plain) hear(b api.Ballot, last, lastTerm int) (plain, []api.Ballot) {
	pre := b.Kind == api.PreSay
	if b.Term > p.term && !(pre && b.Yes) {
		return p.stepDown(b.Term), nil
	}
	counts := p.role == api.Candidate && b.Term == p.term
	if pre {
		counts = p.role == api.Hopeful && (!b.Yes || b.Term == p.term+1)
	}
	if !counts {
		return p, nil
	}
	if p.said[b.From] == 0 {
		p.said[b.From] = map[bool]int8{true: 1, false: -1}[b.Yes]
	}
	won, lost := p.count()
	switch {
	case won && pre:
		return p.run(last, lastTerm)
	case won:
		p.role, p.leader = api.Leader, p.id
	case lost:
		p.role = api.Follower
	}
	return p, nil
}

func (p plain) heard(from, term int) (plain, bool) {
	if !within(1, from, 15) || from == p.id || !within(p.term, term, top) || term == p.term && p.role == api.Leader {
		return p, false
	}
	if term > p.term {
		p = p.stepDown(term)
	}
	p.role, p.leader, p.waited = api.Follower, from, 0
	return p, true
}
