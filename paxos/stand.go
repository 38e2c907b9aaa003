package paxos

import (
	"synodal/accept"
	"synodal/api"
	"synodal/tally"
)

// above tells the least ballot above another one that is this core's own: no two have one in common.
func above(ballot, id int) int {
	own := ballot - ballot%api.MaxNodes + id
	if own <= ballot {
		own += api.MaxNodes
	}
	return own
}

// stand asks the members to promise a ballot of its own.
func (x *Core) stand() {
	found, e := x.acceptor.Prepare(above(x.term(), x.id), x.commit()+1)
	if e != api.OK { // the numbers are at their end
		return
	}
	x.rest()
	x.role, x.found, x.polls = api.Candidate, found, tally.New(x.Config())
	x.polls.Add(x.id, true)
	x.peers = [api.MaxNodes]peer{}
	for _, id := range x.members {
		if id != x.id {
			x.send(ask, id, x.commit())
		}
	}
	x.count()
}

// poll takes a promise, with what the one that promises has voted for, and all that it knows to be committed.
func (x *Core) poll(m api.Msg) {
	if m.Term != x.term() || x.polls == nil {
		return
	}
	x.learn(m)
	if v, ok := voteOf(m); ok {
		x.found = append(x.found, v)
	}
	x.peers[m.From].commit = m.Commit
	x.polls.Add(m.From, true)
	x.count()
}

// count looks whether enough have promised. What may be committed by an elder ballot then comes ahead of all else: it is proposed again.
func (x *Core) count() {
	if !x.polls.Won() {
		return
	}
	next := x.commit() + 1
	e, ok := accept.Pick(x.found, next)
	x.polls, x.found = nil, nil
	if ok && x.fits(next, e) {
		x.waits = []api.Entry{e}
	}
	x.propose()
	x.settle()
	x.tell(x.others())
}
