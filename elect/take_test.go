package elect

import (
	"math"
	"testing"

	"jetway/api"
)

// P10.3, the chapter's example

func TestTakeExample(t *testing.T) {
	n := hopeful(voters(1, 2, 3), 0).node(t)
	l := n.Take(ballot(api.PreSay, 2, 1, true), 0, 0)
	if !(told{ballots: l}).same(told{ballots: asks(1, api.Ask, 1, 0, 0, 2, 3)}) || look(n) != (view{api.Hard{Term: 1, Vote: 1}, api.Candidate, 0}) {
		t.Errorf("behind a PreSay: %v, %+v", l, look(n))
	}
	l = n.Take(ballot(api.Say, 3, 1, true), 0, 0)
	if len(l) != 0 || look(n) != (view{api.Hard{Term: 1, Vote: 1}, api.Leader, 1}) {
		t.Errorf("behind a Say: %v, %+v", l, look(n))
	}
}

// roles are nodes of each role, of term 5, in groups in which one answer more does not decide, and in such in which it does.
func roles() map[string]history {
	three, five := voters(1, 2, 3), voters(1, 2, 3, 4, 5)
	return map[string]history{
		"follower":                  fresh(three, 5),
		"follower that has voted":   voted(three, 5, 3),
		"follower with a leader":    following(three, 5).then(tick(0)),
		"hopeful":                   hopeful(three, 5),
		"hopeful of five":           hopeful(five, 5).then(tick(0)),
		"hopeful with a vote":       voted(three, 5, 3).then(ticks(2)...),
		"candidate":                 candidate(three, 5),
		"candidate of five":         candidate(five, 5).then(tick(0)),
		"leader":                    leading(three, 5),
		"leader of five":            leading(five, 5),
		"learner":                   fresh(api.Group{Voters: []int{2, 3}, Learners: []int{1}}, 5).then(ticks(3)...),
		"stranger":                  following(voters(2, 3), 5).then(ticks(3)...),
		"hopeful, with an answer":   hopeful(five, 5).then(yesOf(api.PreSay, 3, 6)),
		"hopeful, with a no":        hopeful(five, 5).then(noOf(api.PreSay, 3, 5)),
		"candidate, with an answer": candidate(five, 5).then(yesOf(api.Say, 3, 5)),
		"candidate, with a no":      candidate(five, 5).then(noOf(api.Say, 3, 5)),
	}
}

// P10.3, ballots that do not count

// spoiled are ballots that are each wrong in one thing.
func spoiled(good api.Ballot) []api.Ballot {
	var all []api.Ballot
	for _, n := range []int{math.MinInt, -1, 0, 1, 16, 17, math.MaxInt} {
		b := good
		b.From = n
		all = append(all, b)
	}
	for _, n := range []int{math.MinInt, -1, 0, 2, 3, 15, 16, 17, math.MaxInt} {
		b := good
		b.To = n
		all = append(all, b)
	}
	for _, term := range []int{math.MinInt, -1, top + 1, math.MaxInt} {
		b := good
		b.Term = term
		all = append(all, b)
	}
	return all
}

func TestTakeOfWrongBallots(t *testing.T) {
	for _, h := range roles() {
		for _, kind := range []int{api.Pre, api.PreSay, api.Ask, api.Say} {
			for _, yes := range []bool{true, false} {
				for _, b := range spoiled(ballot(kind, 3, 6, yes)) {
					wantNothing(t, h, take(b))
				}
			}
		}
		for _, kind := range []int{math.MinInt, -1, 0, 5, 6, 10, math.MaxInt} {
			for _, term := range []int{5, 6, 9} {
				wantNothing(t, h, yesOf(kind, 3, term))
				wantNothing(t, h, noOf(kind, 3, term))
			}
		}
		// Two errors at once.
		wantNothing(t, h, take(api.Ballot{Kind: api.Say, From: 0, To: 0, Term: 9}))
		wantNothing(t, h, take(api.Ballot{Kind: api.Ask, From: 16, To: 1, Term: -1}))
		wantNothing(t, h, take(api.Ballot{Kind: 5, From: 2, To: 1, Term: top + 1}))
		wantNothing(t, h, take(api.Ballot{}))
	}
}

func TestTakeOfNodesAtTheEnds(t *testing.T) {
	for _, c := range []struct{ id, from int }{{1, 15}, {15, 1}, {1, 2}, {15, 14}, {7, 15}, {7, 1}} {
		n := history{id: c.id, group: voters(1, 15), patience: 2}.node(t)
		l := n.Take(api.Ballot{Kind: api.Ask, From: c.from, To: c.id, Term: 3}, 0, 0)
		if len(l) != 1 || l[0] != (api.Ballot{Kind: api.Say, From: c.id, To: c.from, Term: 3, Yes: true}) || n.Hard().Vote != c.from {
			t.Errorf("%d from %d: %v", c.id, c.from, l)
		}
	}
}

// P10.3, Pre

func TestTakePre(t *testing.T) {
	three := voters(1, 2, 3)
	pre := func(from, term int) call { return noOf(api.Pre, from, term) }
	yes := func(from, term int) told { return told{ballots: say(api.PreSay, from, term, true)} }
	no := func(from, term int) told { return told{ballots: say(api.PreSay, from, term, false)} }
	h := api.Hard{Term: 5}
	follower := view{h, api.Follower, 0}
	self := api.Hard{Term: 5, Vote: 1}
	long := history{id: 1, hard: h, group: three, patience: 2}.then(tick(0), tick(1)) // it waits for three ticks now
	wantScenes(t, []scene{
		{"a greater term", fresh(three, 5), pre(3, 6), yes(3, 6), follower},
		{"a much greater one", fresh(three, 5), pre(3, 99), yes(3, 99), follower},
		{"the greatest", fresh(three, 5), pre(3, top), yes(3, top), follower},
		{"its own", fresh(three, 5), pre(3, 5), no(3, 5), follower},
		{"a lesser one", fresh(three, 5), pre(3, 4), no(3, 5), follower},
		{"term 0", fresh(three, 0), pre(3, 0), no(3, 0), view{}},
		{"term 0, to a greater one", fresh(three, 5), pre(3, 0), no(3, 5), follower},
		{"term 1, to term 0", fresh(three, 0), pre(3, 1), yes(3, 1), view{}},
		{"its own, the last", fresh(three, top), pre(3, top), no(3, top), view{hard: api.Hard{Term: top}}},
		{"that the ballot says Yes says nothing", fresh(three, 5), yesOf(api.Pre, 3, 5), no(3, 5), follower},
		{"nor here", fresh(three, 5), yesOf(api.Pre, 3, 6), yes(3, 6), follower},
		{"it has voted for another", voted(three, 5, 2), pre(3, 6), yes(3, 6), view{api.Hard{Term: 5, Vote: 2}, api.Follower, 0}},
		{"from a node that is no voter", fresh(three, 5), pre(15, 6), yes(15, 6), follower},

		{"with a leader", following(three, 5), pre(3, 6), no(3, 5), view{h, api.Follower, 2}},
		{"from its leader", following(three, 5), pre(2, 6), no(2, 5), view{h, api.Follower, 2}},
		{"ahead of its patience", following(three, 5).then(tick(0)), pre(3, 6), no(3, 5), view{h, api.Follower, 2}},
		{"ahead of its patience, though a longer limit", long.then(heard(2, 5), tick(0)), pre(3, 6), no(3, 5), view{h, api.Follower, 2}},
		{"behind its patience, ahead of its limit", long.then(heard(2, 5), tick(0), tick(0)), pre(3, 6), yes(3, 6), view{h, api.Follower, 2}},
		{"behind its patience, but its own term", long.then(heard(2, 5), tick(0), tick(0)), pre(3, 5), no(3, 5), view{h, api.Follower, 2}},
		{"behind its patience, but a newer log", long.then(heard(2, 5), tick(0), tick(0)), takeAt(ballot(api.Pre, 3, 6, false), 1, 0), no(3, 5), view{h, api.Follower, 2}},

		{"hopeful", hopeful(three, 5), pre(3, 6), yes(3, 6), view{h, api.Hopeful, 0}},
		{"hopeful, its own term", hopeful(three, 5), pre(3, 5), no(3, 5), view{h, api.Hopeful, 0}},
		{"candidate", candidate(three, 5), pre(3, 6), yes(3, 6), view{self, api.Candidate, 0}},
		{"candidate, its own term", candidate(three, 5), pre(3, 5), no(3, 5), view{self, api.Candidate, 0}},
		{"leader", leading(three, 5), pre(3, 6), no(3, 5), view{self, api.Leader, 1}},
		{"leader, its own term", leading(three, 5), pre(3, 5), no(3, 5), view{self, api.Leader, 1}},
		{"a learner", fresh(api.Group{Voters: []int{2, 3}, Learners: []int{1}}, 5), pre(3, 6), yes(3, 6), follower},
		{"none of the group", fresh(voters(2, 3), 5), pre(3, 6), yes(3, 6), follower},
	})
}

// A Leader is its own leader, but what it waited as a candidate is still waited.
func TestTakePreOfALeaderThatHasWaited(t *testing.T) {
	for _, waited := range []int{0, 1, 2} {
		h := fresh(voters(1, 2, 3), 4).then(tick(0), tick(1), yesOf(api.PreSay, 2, 5)).then(ticks(waited)...).then(yesOf(api.Say, 2, 5))
		term := 5
		if waited == 2 {
			term = 6
		}
		wantScenes(t, []scene{{"a leader", h, noOf(api.Pre, 3, 6), told{ballots: say(api.PreSay, 3, term, waited == 2)}, view{api.Hard{Term: 5, Vote: 1}, api.Leader, 1}}})
	}
}

func TestTakePreChangesNothing(t *testing.T) {
	for _, h := range roles() {
		for _, term := range []int{0, 4, 5, 6, 7, top} {
			for _, from := range []int{2, 3, 15} {
				wantFutures(t, h.then(noOf(api.Pre, from, term)), h.plain(t))
			}
		}
	}
}

// P10.3, logs

// logs are the ends of a ballot's log, held against one that ends with 5 of term 3.
var logs = []struct {
	index, term int
	notNewer    bool // the log that ends with 5 of term 3
}{
	{5, 3, true}, {4, 3, false}, {6, 3, true}, {0, 3, false}, {top, 3, true},
	{5, 2, false}, {6, 2, false}, {99, 2, false}, {top, 0, false}, {math.MaxInt, 2, false},
	{5, 4, true}, {4, 4, true}, {0, 4, true}, {0, top, true}, {math.MinInt, 4, true},
	{math.MinInt, 3, false}, {math.MaxInt, 3, true}, {5, math.MinInt, false}, {5, math.MaxInt, true}, {-1, -1, false},
}

func TestTakeHoldsLogsAgainstEachOther(t *testing.T) {
	h := fresh(voters(1, 2, 3), 5)
	var l []scene
	for _, c := range logs {
		b := ballot(api.Pre, 3, 6, false)
		b.Index, b.LogTerm = c.index, c.term
		term, vote := 5, 0
		if c.notNewer {
			term, vote = 6, 3
		}
		l = append(l, scene{"Pre", h, takeAt(b, 5, 3), told{ballots: say(api.PreSay, 3, term, c.notNewer)}, view{hard: api.Hard{Term: 5}}})
		b.Kind = api.Ask
		l = append(l, scene{"Ask", h, takeAt(b, 5, 3), told{ballots: say(api.Say, 3, 6, c.notNewer)}, view{hard: api.Hard{Term: 6, Vote: vote}}})
		b.Term = 5
		if c.notNewer {
			vote = 3
		}
		l = append(l, scene{"Ask of its own term", h, takeAt(b, 5, 3), told{ballots: say(api.Say, 3, 5, c.notNewer)}, view{hard: api.Hard{Term: 5, Vote: vote}}})
		// What an answer says of a log is nothing, and neither is what a node has that counts answers.
		b.Kind, b.Term, b.Yes = api.PreSay, 6, true
		l = append(l, scene{"PreSay", hopeful(voters(1, 2, 3), 5), takeAt(b, 5, 3), told{ballots: asks(1, api.Ask, 6, 5, 3, 2, 3)}, view{api.Hard{Term: 6, Vote: 1}, api.Candidate, 0}})
		b.Kind, b.Term = api.Say, 5
		l = append(l, scene{"Say", candidate(voters(1, 2, 3), 5), takeAt(b, 5, 3), told{}, view{api.Hard{Term: 5, Vote: 1}, api.Leader, 1}})
	}
	wantScenes(t, l)
}

// P10.3, PreSay

func TestTakePreSay(t *testing.T) {
	three, five := voters(1, 2, 3), voters(1, 2, 3, 4, 5)
	h := api.Hard{Term: 5}
	self := api.Hard{Term: 6, Vote: 1}
	yes := func(from, term int) call { return yesOf(api.PreSay, from, term) }
	no := func(from, term int) call { return noOf(api.PreSay, from, term) }
	hoping, running := view{h, api.Hopeful, 0}, view{self, api.Candidate, 0}
	asked := func(to ...int) told { return told{ballots: asks(1, api.Ask, 6, 0, 0, to...)} }
	wantScenes(t, []scene{
		{"a yes of three", hopeful(three, 5), yes(2, 6), asked(2, 3), running},
		{"of the other", hopeful(three, 5), yes(3, 6), asked(2, 3), running},
		{"of two", hopeful(voters(1, 15), 5), yes(15, 6), asked(15), running},
		{"of two, a no", hopeful(voters(1, 15), 5), no(15, 5), told{}, view{h, api.Follower, 0}},
		{"it votes for itself, whomever it has voted for", voted(three, 5, 3).then(ticks(2)...), yes(3, 6), asked(2, 3), running},
		{"a yes of five", hopeful(five, 5), yes(2, 6), told{}, hoping},
		{"two of five", hopeful(five, 5).then(yes(2, 6)), yes(5, 6), asked(2, 3, 4, 5), running},
		{"the same of five, twice", hopeful(five, 5).then(yes(2, 6)), yes(2, 6), told{}, hoping},
		{"a no of three", hopeful(three, 5), no(2, 5), told{}, hoping},
		{"two of three", hopeful(three, 5).then(no(2, 5)), no(3, 5), told{}, view{h, api.Follower, 0}},
		{"the same of three, twice", hopeful(three, 5).then(no(2, 5)), no(2, 5), told{}, hoping},
		{"a no, then a yes of the same", hopeful(three, 5).then(no(2, 5)), yes(2, 6), told{}, hoping},
		{"and a yes of the other", hopeful(three, 5).then(no(2, 5), yes(2, 6)), yes(3, 6), asked(2, 3), running},
		{"a yes, then a no of the same", hopeful(five, 5).then(yes(2, 6), no(2, 5), no(3, 5), no(4, 5)), yes(5, 6), asked(2, 3, 4, 5), running},
		{"three no of five", hopeful(five, 5).then(no(2, 5), no(3, 5)), no(4, 5), told{}, view{h, api.Follower, 0}},
		{"a no of a lesser term", hopeful(voters(1, 2), 5), no(2, 0), told{}, view{h, api.Follower, 0}},
		{"a no of a greater term", hopeful(three, 5), no(2, 6), told{}, view{hard: api.Hard{Term: 6}}},
		{"of the greatest", hopeful(three, 5), no(2, top), told{}, view{hard: api.Hard{Term: top}}},
		{"a yes of its own term", hopeful(three, 5), yes(2, 5), told{}, hoping},
		{"of a lesser term", hopeful(three, 5), yes(2, 4), told{}, hoping},
		{"of one too great", hopeful(three, 5), yes(2, 7), told{}, hoping},
		{"of the greatest, which is too great", hopeful(three, 5), yes(2, top), told{}, hoping},
		{"it is not noted, either", hopeful(three, 5).then(yes(2, 7)), no(3, 5), told{}, hoping},
		{"a yes of no voter", hopeful(three, 5), yes(4, 6), told{}, hoping},
		{"of a learner", hopeful(api.Group{Voters: []int{1, 2, 3}, Learners: []int{4, 5}}, 5).then(yes(4, 6)), yes(5, 6), told{}, hoping},
		{"a no of no voter", hopeful(voters(1, 2), 5), no(3, 5), told{}, hoping},
		{"a no of no voter, of a greater term", hopeful(three, 5), no(15, 8), told{}, view{hard: api.Hard{Term: 8}}},
		{"all of no voter, then one", hopeful(three, 5).then(no(4, 5), yes(5, 6), no(15, 5)), yes(2, 6), asked(2, 3), running},

		{"a follower, a yes", fresh(three, 5), yes(2, 6), told{}, view{h, api.Follower, 0}},
		{"a follower, a no", fresh(three, 5), no(2, 5), told{}, view{h, api.Follower, 0}},
		{"a follower, a no of a greater term", following(three, 5), no(2, 6), told{}, view{hard: api.Hard{Term: 6}}},
		{"its vote is for another term", voted(three, 5, 3), no(2, 6), told{}, view{hard: api.Hard{Term: 6}}},
		{"a follower, a yes of a greater term", following(three, 5), yes(2, 9), told{}, view{h, api.Follower, 2}},
		{"a follower that was hopeful", hopeful(three, 5).then(no(2, 5), no(3, 5)), yes(2, 6), told{}, view{h, api.Follower, 0}},
		{"a candidate, a yes", candidate(three, 6), yes(3, 6), told{}, running},
		{"a candidate, a yes for the next", candidate(three, 6), yes(3, 7), told{}, running},
		{"a candidate, a no", candidate(voters(1, 2), 6), no(2, 6), told{}, running},
		{"a candidate, a no of a greater term", candidate(three, 6), no(3, 7), told{}, view{hard: api.Hard{Term: 7}}},
		{"a leader, a yes for the next", leading(three, 6), yes(3, 7), told{}, view{self, api.Leader, 1}},
		{"a leader, a no", leading(three, 6), no(3, 6), told{}, view{self, api.Leader, 1}},
		{"a leader, a no of a greater term", leading(three, 6), no(3, 7), told{}, view{hard: api.Hard{Term: 7}}},
	})
}

// P10.3, Ask

func TestTakeAsk(t *testing.T) {
	three := voters(1, 2, 3)
	ask := func(from, term int) call { return noOf(api.Ask, from, term) }
	yes := func(from, term int) told { return told{ballots: say(api.Say, from, term, true)} }
	no := func(from, term int) told { return told{ballots: say(api.Say, from, term, false)} }
	hard := func(term, vote int) api.Hard { return api.Hard{Term: term, Vote: vote} }
	newer := takeAt(ballot(api.Ask, 3, 5, false), 1, 0)
	newerOfSix := takeAt(ballot(api.Ask, 3, 6, false), 1, 0)
	wantScenes(t, []scene{
		{"its own term", fresh(three, 5), ask(3, 5), yes(3, 5), view{hard: hard(5, 3)}},
		{"a greater term", fresh(three, 5), ask(3, 6), yes(3, 6), view{hard: hard(6, 3)}},
		{"the greatest", fresh(three, 5), ask(3, top), yes(3, top), view{hard: hard(top, 3)}},
		{"a lesser term", fresh(three, 5), ask(3, 4), no(3, 5), view{hard: hard(5, 0)}},
		{"term 0", fresh(three, 0), ask(3, 0), yes(3, 0), view{hard: hard(0, 3)}},
		{"that the ballot says Yes says nothing", fresh(three, 5), yesOf(api.Ask, 3, 4), no(3, 5), view{hard: hard(5, 0)}},
		{"its vote is that node's", voted(three, 5, 3), ask(3, 5), yes(3, 5), view{hard: hard(5, 3)}},
		{"that node's, in a lesser term", voted(three, 5, 3), ask(3, 4), no(3, 5), view{hard: hard(5, 3)}},
		{"another's", voted(three, 5, 2), ask(3, 5), no(3, 5), view{hard: hard(5, 2)}},
		{"its own", voted(three, 5, 1), ask(3, 5), no(3, 5), view{hard: hard(5, 1)}},
		{"another's, in a greater term", voted(three, 5, 2), ask(3, 6), yes(3, 6), view{hard: hard(6, 3)}},
		{"twice", fresh(three, 5).then(ask(3, 5)), ask(3, 5), yes(3, 5), view{hard: hard(5, 3)}},
		{"of two", fresh(three, 5).then(ask(3, 5)), ask(2, 5), no(2, 5), view{hard: hard(5, 3)}},
		{"of two, the term of one", fresh(three, 5).then(ask(3, 6)), ask(2, 6), no(2, 6), view{hard: hard(6, 3)}},
		{"of one, the next term", fresh(three, 5).then(ask(3, 6)), ask(3, 7), yes(3, 7), view{hard: hard(7, 3)}},
		{"a newer log", fresh(three, 5), newer, no(3, 5), view{hard: hard(5, 0)}},
		{"a newer log, a greater term", following(three, 5), newerOfSix, no(3, 6), view{hard: hard(6, 0)}},
		{"a newer log, having voted for it", voted(three, 5, 3), newer, no(3, 5), view{hard: hard(5, 3)}},
		{"a newer log, a greater term, having voted", voted(three, 5, 2), newerOfSix, no(3, 6), view{hard: hard(6, 0)}},
		{"a node that is no voter", fresh(three, 5), ask(15, 6), yes(15, 6), view{hard: hard(6, 15)}},

		{"with a leader, its own term", following(three, 5), ask(3, 5), yes(3, 5), view{hard(5, 3), api.Follower, 2}},
		{"with a leader, a greater term", following(three, 5), ask(3, 6), yes(3, 6), view{hard: hard(6, 3)}},
		{"with a leader, a lesser term", following(three, 5), ask(3, 4), no(3, 5), view{hard(5, 0), api.Follower, 2}},
		{"hopeful, its own term", hopeful(three, 5), ask(3, 5), yes(3, 5), view{hard: hard(5, 3)}},
		{"hopeful, having voted for it", voted(three, 5, 3).then(ticks(2)...), ask(3, 5), yes(3, 5), view{hard: hard(5, 3)}},
		{"hopeful, having voted for another", voted(three, 5, 2).then(ticks(2)...), ask(3, 5), no(3, 5), view{hard(5, 2), api.Hopeful, 0}},
		{"hopeful, a lesser term", hopeful(three, 5), ask(3, 4), no(3, 5), view{hard(5, 0), api.Hopeful, 0}},
		{"hopeful, a newer log", hopeful(three, 5), newer, no(3, 5), view{hard(5, 0), api.Hopeful, 0}},
		{"hopeful, a newer log, a greater term", hopeful(three, 5), newerOfSix, no(3, 6), view{hard: hard(6, 0)}},
		{"hopeful, a greater term", hopeful(three, 5), ask(3, 6), yes(3, 6), view{hard: hard(6, 3)}},
		{"candidate, its own term", candidate(three, 5), ask(3, 5), no(3, 5), view{hard(5, 1), api.Candidate, 0}},
		{"candidate, a lesser term", candidate(three, 5), ask(3, 4), no(3, 5), view{hard(5, 1), api.Candidate, 0}},
		{"candidate, a greater term", candidate(three, 5), ask(3, 6), yes(3, 6), view{hard: hard(6, 3)}},
		{"candidate, a newer log, a greater term", candidate(three, 5), newerOfSix, no(3, 6), view{hard: hard(6, 0)}},
		{"leader, its own term", leading(three, 5), ask(3, 5), no(3, 5), view{hard(5, 1), api.Leader, 1}},
		{"leader, a lesser term", leading(three, 5), ask(3, 4), no(3, 5), view{hard(5, 1), api.Leader, 1}},
		{"leader, a greater term", leading(three, 5), ask(3, 6), yes(3, 6), view{hard: hard(6, 3)}},
		{"leader, a newer log, a greater term", leading(three, 5), newerOfSix, no(3, 6), view{hard: hard(6, 0)}},
		{"a learner", fresh(api.Group{Voters: []int{2, 3}, Learners: []int{1}}, 5), ask(3, 6), yes(3, 6), view{hard: hard(6, 3)}},
		{"none of the group", fresh(voters(2, 3), 5), ask(3, 6), yes(3, 6), view{hard: hard(6, 3)}},
	})
}

// Who gives its vote waits anew, who does not waits on.
func TestTakeAskWaits(t *testing.T) {
	for _, c := range []struct {
		what string
		hard api.Hard
		call call
		anew bool
	}{
		{"a vote", api.Hard{Term: 5}, noOf(api.Ask, 3, 5), true},
		{"the same vote", api.Hard{Term: 5, Vote: 3}, noOf(api.Ask, 3, 5), true},
		{"another's", api.Hard{Term: 5, Vote: 2}, noOf(api.Ask, 3, 5), false},
		{"a greater term", api.Hard{Term: 5}, noOf(api.Ask, 3, 6), true},
		{"a lesser term", api.Hard{Term: 5}, noOf(api.Ask, 3, 4), false},
		{"a newer log", api.Hard{Term: 5}, takeAt(ballot(api.Ask, 3, 5, false), 1, 0), false},
		{"a newer log, a greater term", api.Hard{Term: 5}, takeAt(ballot(api.Ask, 3, 6, false), 1, 0), false},
		{"a Pre", api.Hard{Term: 5}, noOf(api.Pre, 3, 6), false},
		{"a no of a greater term", api.Hard{Term: 5}, noOf(api.PreSay, 3, 6), false},
		{"a Say of a greater term", api.Hard{Term: 5}, noOf(api.Say, 3, 6), false},
	} {
		for waited := range 4 {
			h := history{id: 1, hard: c.hard, group: voters(1, 2, 3), patience: 4}.then(ticks(waited)...).then(c.call)
			n := h.node(t)
			left := 4
			if !c.anew {
				left -= waited
			}
			for i := 1; i <= left; i++ {
				if l := n.Tick(0, 0, 0); len(l) > 0 != (i == left) {
					t.Errorf("%s: %v: tick %d of %d: %v", c.what, h, i, left, l)
				}
			}
		}
	}
	// The limit stays as it was drawn.
	h := history{id: 1, group: voters(1, 2, 3), patience: 4}.then(ticks(3)...).then(tick(3), noOf(api.Ask, 3, 0))
	n := h.node(t)
	for i := 1; i <= 7; i++ {
		if l := n.Tick(0, 0, 0); len(l) > 0 != (i == 7) {
			t.Errorf("%v: tick %d: %v", h, i, l)
		}
	}
}

// P10.3, Say

func TestTakeSay(t *testing.T) {
	three, five := voters(1, 2, 3), voters(1, 2, 3, 4, 5)
	self := api.Hard{Term: 5, Vote: 1}
	yes := func(from, term int) call { return yesOf(api.Say, from, term) }
	no := func(from, term int) call { return noOf(api.Say, from, term) }
	running, leads := view{self, api.Candidate, 0}, view{self, api.Leader, 1}
	follower := view{self, api.Follower, 0}
	other := func(term int) view { return view{hard: api.Hard{Term: term}} }
	wantScenes(t, []scene{
		{"a yes of three", candidate(three, 5), yes(2, 5), told{}, leads},
		{"of the other", candidate(three, 5), yes(3, 5), told{}, leads},
		{"of two", candidate(voters(1, 15), 5), yes(15, 5), told{}, leads},
		{"of two, a no", candidate(voters(1, 15), 5), no(15, 5), told{}, follower},
		{"a yes of five", candidate(five, 5), yes(5, 5), told{}, running},
		{"two of five", candidate(five, 5).then(yes(5, 5)), yes(2, 5), told{}, leads},
		{"the same of five, twice", candidate(five, 5).then(yes(5, 5)), yes(5, 5), told{}, running},
		{"who said yes to the Pre has not voted", candidate(five, 5).then(yes(2, 5)), yes(2, 5), told{}, running},
		{"a no of three", candidate(three, 5), no(2, 5), told{}, running},
		{"two of three", candidate(three, 5).then(no(2, 5)), no(3, 5), told{}, follower},
		{"the same of three, twice", candidate(three, 5).then(no(2, 5)), no(2, 5), told{}, running},
		{"a no, then a yes of the same", candidate(three, 5).then(no(2, 5)), yes(2, 5), told{}, running},
		{"and a yes of the other", candidate(three, 5).then(no(2, 5), yes(2, 5)), yes(3, 5), told{}, leads},
		{"a yes, then a no of the same", candidate(five, 5).then(yes(2, 5), no(2, 5), no(3, 5), no(4, 5)), yes(5, 5), told{}, leads},
		{"three no of five", candidate(five, 5).then(no(2, 5), no(3, 5)), no(4, 5), told{}, follower},
		{"a yes of a lesser term", candidate(three, 5), yes(2, 4), told{}, running},
		{"a no of a lesser term", candidate(voters(1, 2), 5), no(2, 4), told{}, running},
		{"a yes of a greater term", candidate(three, 5), yes(2, 6), told{}, other(6)},
		{"a no of a greater term", candidate(three, 5), no(2, 6), told{}, other(6)},
		{"of the greatest", candidate(three, 5), no(2, top), told{}, other(top)},
		{"a yes of no voter", candidate(three, 5), yes(4, 5), told{}, running},
		{"of learners", candidate(api.Group{Voters: []int{1, 2, 3}, Learners: []int{4, 5}}, 5).then(yes(4, 5)), yes(5, 5), told{}, running},
		{"a no of no voter", candidate(voters(1, 2), 5), no(3, 5), told{}, running},
		{"a no of no voter, of a greater term", candidate(three, 5), no(15, 8), told{}, other(8)},
		{"all of no voter, then one", candidate(three, 5).then(no(4, 5), yes(5, 5), no(15, 5)), yes(2, 5), told{}, leads},

		{"a follower, a yes", fresh(three, 5), yes(2, 5), told{}, view{hard: api.Hard{Term: 5}}},
		{"a follower, a no", fresh(three, 5), no(2, 5), told{}, view{hard: api.Hard{Term: 5}}},
		{"a follower, a yes of a greater term", following(three, 5), yes(3, 6), told{}, other(6)},
		{"its vote is for another term", voted(three, 5, 3), no(2, 6), told{}, other(6)},
		{"a follower that was a candidate", candidate(three, 5).then(no(2, 5), no(3, 5)), yes(2, 5), told{}, follower},
		{"one that was restarted", voted(three, 5, 1), yes(2, 5), told{}, follower},
		{"hopeful, a yes", hopeful(three, 5), yes(2, 5), told{}, view{api.Hard{Term: 5}, api.Hopeful, 0}},
		{"hopeful, a no", hopeful(voters(1, 2), 5), no(2, 5), told{}, view{api.Hard{Term: 5}, api.Hopeful, 0}},
		{"hopeful, a yes of a greater term", hopeful(three, 5), yes(2, 6), told{}, other(6)},
		{"hopeful, a no of a greater term", hopeful(three, 5), no(2, 7), told{}, other(7)},
		{"a leader, a no", leading(three, 5), no(3, 5), told{}, leads},
		{"a leader, no of all", leading(five, 5).then(no(2, 5), no(3, 5), no(4, 5)), no(5, 5), told{}, leads},
		{"a leader, a yes", leading(three, 5), yes(3, 5), told{}, leads},
		{"a leader, a lesser term", leading(three, 5), no(3, 4), told{}, leads},
		{"a leader, a yes of a greater term", leading(three, 5), yes(3, 6), told{}, other(6)},
		{"a leader, a no of a greater term", leading(three, 5), no(3, 6), told{}, other(6)},
	})
}

// Of fifteen, eight are a majority, and eight are as many as prevent one.
func TestTakeOfFifteen(t *testing.T) {
	g := voters(upTo(15)...)
	n := hopeful(g, 0).node(t)
	for from := 15; from > 8; from-- {
		if n.Role() != api.Hopeful {
			t.Fatalf("role %d ahead of %d", n.Role(), from)
		}
		if l := n.Take(ballot(api.PreSay, from, 1, true), 0, 0); len(l) > 0 != (from == 9) {
			t.Fatalf("%d: %v", from, l)
		}
	}
	for from := 2; from <= 8; from++ {
		if n.Role() != api.Candidate {
			t.Fatalf("role %d ahead of %d", n.Role(), from)
		}
		n.Take(ballot(api.Say, from, 1, true), 0, 0)
	}
	if look(n) != (view{api.Hard{Term: 1, Vote: 1}, api.Leader, 1}) {
		t.Errorf("it is %+v", look(n))
	}
	for _, kind := range []int{api.PreSay, api.Say} {
		n, asked := hopeful(g, 1).node(t), api.Hopeful
		if kind == api.Say {
			n, asked = candidate(g, 1).node(t), api.Candidate
		}
		for from := 2; from <= 9; from++ {
			if n.Role() != asked {
				t.Fatalf("kind %d: role %d ahead of %d", kind, n.Role(), from)
			}
			n.Take(ballot(kind, from, 1, false), 0, 0)
		}
		if n.Role() != api.Follower || n.Leader() != 0 {
			t.Errorf("kind %d: role %d", kind, n.Role())
		}
	}
}
