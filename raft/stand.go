package raft

import (
	"synodal/api"
	"synodal/tally"
)

// How it goes with a core that stands: the worst that it was told.
const (
	open   = iota
	spoilt // by a vote that went elsewhere, or a newer term: it stands again at the next tick
	beaten // by a better log: it stands again when its clock says so, lest two spoil each other's bids for good
)

// stand begins a term, and asks everybody for a vote.
func (x *Core) stand() {
	x.term++
	x.role, x.voted, x.bid = api.Candidate, x.id, open
	x.wait.Reset(x.draw)
	x.votes = tally.New(x.Config())
	x.votes.Add(x.id, true)
	last := x.log.Last()
	for _, id := range x.others() {
		x.send(api.Msg{To: id, Kind: ask, Term: x.term, Index: last, Last: x.log.Term(last)})
	}
	x.count()
}

// poll takes a vote of this term.
func (x *Core) poll(m api.Msg) {
	if x.role != api.Candidate || m.Term != x.term {
		return
	}
	if !m.Yes {
		x.bid = max(x.bid, m.Index)
	}
	x.votes.Add(m.From, m.Yes)
	x.count()
}

func (x *Core) count() {
	if x.votes.Won() {
		x.lead()
	}
}
