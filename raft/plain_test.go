package raft_test

import (
	"bytes"
	"slices"

	"jetway/api"
	"jetway/elect"
	"jetway/field"
	"jetway/progress"
	"jetway/quorum"
	"jetway/rlog"
)

// This file follows the chapter's words one by one, with nothing kept that could be worked out anew: the group is worked out from the whole log each time, and what is new stands in a list of events. Layers 8 to 11 are used as they are.

const top = 1 << 40 // the greatest index, and term

type plainRead struct {
	token, index, round int
	support             [16]bool
}

// event is something that is new: one of its fields is set.
type event struct {
	installed bool
	wrote     int
	msg       *api.Msg
	read      *api.ReadAt
}

type plain struct {
	id, window int
	election   *elect.Node
	log        *rlog.Log
	snap       api.Snap
	peers      [16]*progress.Peer
	pending    []plainRead
	round      int
	oldHard    api.Hard
	events     []event
}

func within(low, n, high int) bool { return low <= n && n <= high }

func plainGroupIsRight(g api.Group) bool {
	seen := map[int]bool{}
	for _, l := range [][]int{g.Voters, g.Learners} {
		for i, n := range l {
			if !within(1, n, 15) || seen[n] || i > 0 && l[i-1] > n {
				return false
			}
			seen[n] = true
		}
	}
	return len(g.Voters) > 0
}

func plainSnapIsRight(s api.Snap) bool {
	return within(0, s.Index, top) && within(0, s.Term, top) && len(s.Data) <= 60000 && plainGroupIsRight(s.Group)
}

func cloneSnap(s api.Snap) api.Snap {
	s.Group.Voters = slices.Clone(s.Group.Voters)
	s.Group.Learners = slices.Clone(s.Group.Learners)
	s.Data = bytes.Clone(s.Data)
	return s
}

func plainNew(id int, h api.Hard, s api.Snap, l []api.Entry, setting [2]int) (*plain, api.Errno) {
	if !plainSnapIsRight(s) || !within(1, setting[1], 64) {
		return nil, api.ErrArg
	}
	n, e := elect.New(id, h, s.Group, setting[0])
	if e != api.OK {
		return nil, e
	}
	g, e := rlog.New(s.Index, s.Term)
	if e != api.OK {
		return nil, e
	}
	if e := g.Add(l); e != api.OK {
		return nil, e
	}
	p := &plain{id: id, window: setting[1], election: n, log: g, snap: cloneSnap(s), oldHard: h}
	n.Join(p.Group())
	return p, api.OK
}

// groupUpTo is the snapshot's group, changed by the entries up to i.
func (p *plain) groupUpTo(i int) api.Group {
	g := cloneSnap(p.snap).Group
	for _, e := range p.log.Get(p.log.First(), max(0, i-p.log.First()+1)) {
		if e.Kind != api.EntryChange {
			continue
		}
		for kind := range 4 {
			for node := range 16 {
				if bytes.Equal(e.Data, changeData(kind, node)) {
					if h, e := quorum.Change(g, kind, node); e == api.OK {
						g = h
					}
				}
			}
		}
	}
	return g
}

func changeData(kind, node int) []byte {
	return append(field.Number(uint64(kind)), field.Number(uint64(node))...)
}

func (p *plain) Group() api.Group { return p.groupUpTo(p.Last()) }

// others are the members of its group.
func (p *plain) others() [16]bool {
	var l [16]bool
	g := p.Group()
	for _, node := range append(g.Voters, g.Learners...) {
		l[node] = node != p.id
	}
	return l
}

func (p *plain) isLeader() bool { return p.election.Role() == api.Leader }

func (p *plain) termOf(i int) int {
	term, _ := p.log.Term(i)
	return term
}

// logChanged is what follows each change of the log.
func (p *plain) logChanged() {
	p.election.Join(p.Group())
	p.makePeers()
}

func (p *plain) makePeers() {
	members := p.others()
	for node := range 16 {
		switch {
		case !p.isLeader() || !members[node]:
			p.peers[node] = nil
		case p.peers[node] == nil:
			next := p.Last() + 1
			if next > top {
				next = top
			}
			p.peers[node], _ = progress.New(next, p.window)
		}
	}
}

func (p *plain) send(m api.Msg) {
	m.From, m.Term = p.id, p.Hard().Term
	p.events = append(p.events, event{msg: &m})
}

func (p *plain) sendBallots(l []api.Ballot) {
	for _, b := range l {
		m := api.Msg{Kind: b.Kind, From: b.From, To: b.To, Term: b.Term, Index: b.Index, LogTerm: b.LogTerm, Yes: b.Yes}
		p.events = append(p.events, event{msg: &m})
	}
}

func (p *plain) forEachMember(do func(node int)) {
	for node := range 16 {
		if p.peers[node] != nil {
			do(node)
		}
	}
}

func (p *plain) appendEntry(kind int, data []byte) api.Errno {
	e := p.log.Add([]api.Entry{{Index: p.Last() + 1, Term: p.Hard().Term, Kind: kind, Data: data}})
	if e == api.OK {
		p.events = append(p.events, event{wrote: p.Last()})
		p.logChanged()
	}
	return e
}

func (p *plain) advance() {
	var at [16]int
	at[p.id] = p.Last()
	p.forEachMember(func(node int) { at[node] = p.peers[node].Match() })
	n := quorum.Middle(p.Group(), at)
	if n > p.Committed() && p.termOf(n) == p.Hard().Term {
		p.log.Commit(n)
		p.forEachMember(p.sendBeat)
	}
}

func (p *plain) sendBeat(node int) {
	commit := p.Committed()
	if match := p.peers[node].Match(); match < commit {
		commit = match
	}
	p.send(api.Msg{Kind: api.Beat, To: node, Commit: commit, Round: p.round})
}

func (p *plain) sendEntries(node int) {
	peer := p.peers[node]
	for peer.May() {
		i := peer.Next() - 1
		if i > p.Last() {
			return
		}
		if i < p.log.First()-1 {
			s := cloneSnap(p.snap)
			p.send(api.Msg{Kind: api.Install, To: node, Index: s.Index, LogTerm: s.Term, Snap: s})
			peer.Install(s.Index)
			return
		}
		var l []api.Entry
		for k := i + 1; k <= p.Last() && k <= i+8; k++ {
			l = append(l, p.log.Get(k, 1)...)
		}
		stream := peer.State() == progress.Stream
		if stream && len(l) == 0 {
			return
		}
		p.send(api.Msg{Kind: api.Append, To: node, Index: i, LogTerm: p.termOf(i), Entries: l, Commit: p.Committed()})
		if e := peer.Sent(i + len(l)); e != api.OK || !stream {
			return
		}
	}
}

// afterElection is what follows each call of the elect.Node.
func (p *plain) afterElection(led bool) {
	if !p.isLeader() {
		p.peers, p.pending, p.round = [16]*progress.Peer{}, nil, 0
		return
	}
	if led {
		return
	}
	p.pending, p.round = nil, 0
	p.makePeers()
	p.appendEntry(api.EntryEmpty, nil)
	p.advance()
	p.forEachMember(p.sendEntries)
}

func (p *plain) Tick(draw int) {
	if p.isLeader() {
		p.forEachMember(func(node int) {
			p.peers[node].Beat()
			if p.peers[node].State() == progress.Snap {
				p.peers[node].Over(false)
			}
			p.sendBeat(node)
			p.sendEntries(node)
		})
		return
	}
	p.sendBallots(p.election.Tick(draw, p.Last(), p.termOf(p.Last())))
	p.afterElection(false)
}

func (p *plain) take(b api.Ballot) {
	led := p.isLeader()
	p.sendBallots(p.election.Take(b, p.Last(), p.termOf(p.Last())))
	p.afterElection(led)
}

func (p *plain) Step(m api.Msg) {
	if m.To != p.id || !within(1, m.From, 15) || m.From == p.id || !within(0, m.Term, top) || !within(1, m.Kind, 10) {
		return
	}
	if m.Kind <= 4 {
		p.take(api.Ballot{Kind: m.Kind, From: m.From, To: m.To, Term: m.Term, Index: m.Index, LogTerm: m.LogTerm, Yes: m.Yes})
		return
	}
	asks := m.Kind%2 == 1
	if m.Term < p.Hard().Term {
		if asks {
			p.send(api.Msg{Kind: m.Kind + 1, To: m.From, Index: m.Index})
		}
		return
	}
	if !asks {
		if m.Term > p.Hard().Term {
			p.take(api.Ballot{Kind: api.Say, From: m.From, To: p.id, Term: m.Term})
		} else if p.isLeader() && p.others()[m.From] {
			p.stepSay(m, p.peers[m.From])
		}
		return
	}
	led := p.isLeader()
	if p.election.Heard(m.From, m.Term) {
		p.afterElection(led)
		p.stepAsk(m)
	}
}

func (p *plain) stepAsk(m api.Msg) {
	say := api.Msg{Kind: m.Kind + 1, To: m.From, Yes: true}
	switch m.Kind {
	case api.Append:
		first, e := p.log.Merge(m.Index, m.LogTerm, m.Entries)
		if e != api.OK && e != api.ErrOrder {
			return
		}
		say.Index = m.Index
		if e == api.ErrOrder {
			say.Yes, say.Hint = false, p.log.Back(m.Index, m.LogTerm)
			break
		}
		if first > 0 {
			p.events = append(p.events, event{wrote: first})
			p.logChanged()
		}
		say.Index += len(m.Entries)
		p.commitUpTo(m.Commit, say.Index)
	case api.Beat:
		p.commitUpTo(m.Commit, p.Last())
		say.Round, say.Index = m.Round, p.Last()
	case api.Install:
		if !plainSnapIsRight(m.Snap) || m.Snap.Index != m.Index || m.Snap.Term != m.LogTerm {
			return
		}
		p.install(m.Snap)
		say.Index = m.Index
		if p.Committed() > m.Index {
			say.Index = p.Committed()
		}
	}
	p.send(say)
}

// commitUpTo commits up to the lesser one, if that is more.
func (p *plain) commitUpTo(a, b int) {
	i := a
	if b < a {
		i = b
	}
	if i > p.Committed() {
		p.log.Commit(i)
	}
}

func (p *plain) install(s api.Snap) {
	if s.Index <= p.Committed() {
		return
	}
	if term, ok := p.log.Term(s.Index); ok && term == s.Term {
		p.log.Commit(s.Index)
		return
	}
	p.log.Reset(s.Index, s.Term)
	p.snap = cloneSnap(s)
	p.events = append(p.events, event{installed: true})
	p.logChanged()
}

func (p *plain) stepSay(m api.Msg, peer *progress.Peer) {
	switch {
	case m.Kind == api.BeatSay:
		p.support(m)
		if peer.Match() < p.Last() {
			p.sendEntries(m.From)
		}
	case m.Yes && m.Index <= p.Last():
		if peer.Acked(m.Index) {
			p.advance()
		}
		p.sendEntries(m.From)
	case m.Yes:
	case m.Kind == api.InstallSay:
		peer.Over(false)
	case peer.Refused(m.Index, m.Hint):
		p.sendEntries(m.From)
	}
}

func (p *plain) support(m api.Msg) {
	for i := range p.pending {
		if p.pending[i].round <= m.Round {
			p.pending[i].support[m.From] = true
		}
	}
	var rest []plainRead
	for _, r := range p.pending {
		votes, all := 0, p.Group().Voters
		for _, v := range all {
			if r.support[v] {
				votes++
			}
		}
		if 2*votes > len(all) {
			p.events = append(p.events, event{read: &api.ReadAt{Token: r.token, Index: r.index}})
		} else {
			rest = append(rest, r)
		}
	}
	p.pending = rest
}

func (p *plain) Propose(data []byte) (int, api.Errno) {
	if !p.isLeader() {
		return 0, api.ErrOrder
	}
	if len(data) > 4096 {
		return 0, api.ErrArg
	}
	return p.proceed(api.EntryData, data)
}

func (p *plain) proceed(kind int, data []byte) (int, api.Errno) {
	if e := p.appendEntry(kind, data); e != api.OK {
		return 0, e
	}
	p.advance()
	p.forEachMember(p.sendEntries)
	return p.Last(), api.OK
}

func (p *plain) Change(kind, node int) (int, api.Errno) {
	if !p.isLeader() {
		return 0, api.ErrOrder
	}
	if _, e := quorum.Change(p.Group(), kind, node); e != api.OK {
		return 0, e
	}
	if node == p.id || p.termOf(p.Committed()) != p.Hard().Term {
		return 0, api.ErrOrder
	}
	for _, e := range p.log.Get(p.Committed()+1, p.Last()) {
		if e.Kind == api.EntryChange {
			return 0, api.ErrOrder
		}
	}
	return p.proceed(api.EntryChange, changeData(kind, node))
}

func (p *plain) Read(token int) api.Errno {
	if !p.isLeader() || p.termOf(p.Committed()) != p.Hard().Term || len(p.pending) == 64 {
		return api.ErrOrder
	}
	if g := p.Group(); len(g.Voters) == 1 && g.Voters[0] == p.id {
		p.events = append(p.events, event{read: &api.ReadAt{Token: token, Index: p.Committed()}})
		return api.OK
	}
	p.round++
	r := plainRead{token: token, index: p.Committed(), round: p.round}
	r.support[p.id] = true
	p.pending = append(p.pending, r)
	p.forEachMember(p.sendBeat)
	return api.OK
}

func (p *plain) Out() api.Ready {
	var r api.Ready
	if p.Hard() != p.oldHard {
		r.HardNew, r.Hard = true, p.Hard()
	}
	for _, e := range p.events {
		switch {
		case e.installed:
			r.SnapNew, r.Snap, r.From = true, p.Snap(), 0
		case e.msg != nil:
			r.Msgs = append(r.Msgs, *e.msg)
		case e.read != nil:
			r.Reads = append(r.Reads, *e.read)
		case r.From == 0 || e.wrote < r.From:
			r.From = e.wrote
		}
	}
	p.oldHard, p.events = p.Hard(), nil
	return r
}

func (p *plain) Todo(most int) []api.Entry {
	var l []api.Entry
	for i := p.Applied() + 1; i <= p.Committed() && len(l) < most; i++ {
		l = append(l, p.log.Get(i, 1)...)
	}
	return l
}

func (p *plain) Done(i int) api.Errno { return p.log.Apply(i) }

func (p *plain) Compact(i int, data []byte) api.Errno {
	if len(data) > 60000 {
		return api.ErrArg
	}
	s := api.Snap{Index: i, Term: p.termOf(i), Group: p.groupUpTo(i), Data: bytes.Clone(data)}
	e := p.log.Compact(i)
	if e == api.OK {
		p.snap = s
	}
	return e
}

func (p *plain) Get(from, most int) []api.Entry { return p.log.Get(from, most) }

func (p *plain) Last() int { return p.log.Last() }

func (p *plain) Committed() int { return p.log.Committed() }

func (p *plain) Applied() int { return p.log.Applied() }

func (p *plain) Snap() api.Snap { return cloneSnap(p.snap) }

func (p *plain) Hard() api.Hard { return p.election.Hard() }

func (p *plain) Role() int { return p.election.Role() }

func (p *plain) Leader() int { return p.election.Leader() }
