package raft

import (
	"synodal/api"
	"synodal/tally"
)

// How it goes with a core that stands: the worst that it was told.
const (
	open   = iota
	spoilt // by a vote that went elsewhere, or a newer term: it stands again at the next tick
	beaten // by a better log, or one that leads: it waits for its clock, lest two spoil each other's bids for good
)

// stand begins a term, and asks everybody for a vote.
func (x *Core) stand() {
	x.term++
	x.role, x.voted, x.bid = api.Candidate, x.id, open
	x.wait.Reset(x.draw)
	x.votes = tally.New(x.Config())
	x.votes.Add(x.id, true)
	last := x.log.Last()
	for _, id := range x.others() {
		x.send(api.Msg{To: id, Kind: ask, Term: x.term, Index: last, Last: x.log.Term(last)})
	}
	x.count()
}

// poll takes a vote of this term. One that a newer term made a Follower hears, too, how its bid went: if it was beaten, it does not stand at the next tick.
func (x *Core) poll(m api.Msg) {
	if m.Term != x.term {
		return
	}
	if !m.Yes && (x.role == api.Candidate || x.bid == spoilt) {
		x.bid = max(x.bid, m.Index)
	}
	if x.role == api.Candidate {
		x.votes.Add(m.From, m.Yes)
		x.count()
	}
}

func (x *Core) count() {
	if x.votes.Won() {
		x.lead()
	}
}
