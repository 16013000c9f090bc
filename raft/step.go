package raft

import (
	"jetway/api"
	"jetway/progress"
)

// answerTo is the kind of the answer to a leader's message.
func answerTo(kind int) int {
	switch kind {
	case api.Append:
		return api.AppendSay
	case api.Beat:
		return api.BeatSay
	}
	return api.InstallSay
}

// follow takes a message of a leader.
func (n *Node) follow(m api.Msg) {
	if m.Term < n.Hard().Term {
		n.answer(m, api.Msg{Index: m.Index})
		return
	}
	if !n.Heard(m.From, m.Term) {
		return
	}
	// Who has heard a leader is none any more.
	n.leading = leading{}
	switch m.Kind {
	case api.Append:
		n.takeAppend(m)
	case api.Beat:
		n.takeBeat(m)
	case api.Install:
		n.takeInstall(m)
	}
}

func (n *Node) answer(to, m api.Msg) {
	m.Kind, m.To = answerTo(to.Kind), to.From
	n.send(m)
}

func (n *Node) takeAppend(m api.Msg) {
	wrote, e := n.log.Merge(m.Index, m.LogTerm, m.Entries)
	switch e {
	case api.OK:
		n.wrote(wrote)
		last := m.Index + len(m.Entries)
		n.commit(min(m.Commit, last))
		n.answer(m, api.Msg{Yes: true, Index: last})
	case api.ErrOrder:
		n.answer(m, api.Msg{Index: m.Index, Hint: n.log.Back(m.Index, m.LogTerm)})
	}
}

func (n *Node) takeBeat(m api.Msg) {
	n.commit(min(m.Commit, n.log.Last()))
	n.answer(m, api.Msg{Yes: true, Round: m.Round, Index: n.log.Last()})
}

func (n *Node) takeInstall(m api.Msg) {
	if !validSnap(m.Snap) || m.Snap.Index != m.Index || m.Snap.Term != m.LogTerm {
		return
	}
	if m.Index > n.log.Committed() {
		n.install(m.Snap)
	}
	n.answer(m, api.Msg{Yes: true, Index: n.log.Committed()})
}

// install commits all that a snapshot has in it; only a log that lacks this gives way to it.
func (n *Node) install(s api.Snap) {
	if term, ok := n.log.Term(s.Index); ok && term == s.Term {
		n.commit(s.Index)
		return
	}
	n.log.Reset(s.Index, s.Term)
	n.snap, n.turns = copiedSnap(s), nil
	n.fresh.SnapNew, n.fresh.From = true, 0
	n.regroup(n.log.First())
}

// commit moves on only: what is committed stays so.
func (n *Node) commit(i int) {
	if i > n.log.Committed() {
		n.log.Commit(i)
	}
}

// wrote notes that entries were written from an index on, or none at all, if that is 0.
func (n *Node) wrote(from int) {
	if from == 0 {
		return
	}
	if n.fresh.From == 0 || from < n.fresh.From {
		n.fresh.From = from
	}
	n.regroup(from)
}

// hear takes an answer to a leader's message.
func (n *Node) hear(m api.Msg) {
	switch term := n.Hard().Term; {
	case m.Term > term:
		n.take(api.Ballot{Kind: api.Say, From: m.From, To: n.id, Term: m.Term})
		return
	case m.Term < term:
		return
	}
	// Only a Leader has peers, and of members alone.
	p := n.peers[m.From]
	switch {
	case p == nil:
	case m.Kind == api.BeatSay:
		n.hearBeat(m, p)
	case m.Yes:
		n.hearYes(m, p)
	case m.Kind == api.InstallSay:
		p.Over(false)
	case p.Refused(m.Index, m.Hint):
		n.sendEntries(m.From)
	}
}

func (n *Node) hearBeat(m api.Msg, p *progress.Peer) {
	n.support(m.From, m.Round)
	if p.Match() < n.log.Last() {
		n.sendEntries(m.From)
	}
}

func (n *Node) hearYes(m api.Msg, p *progress.Peer) {
	if m.Index > n.log.Last() {
		return
	}
	if p.Acked(m.Index) {
		n.advance()
	}
	n.sendEntries(m.From)
}
