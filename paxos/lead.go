package paxos

import (
	"slices"

	"synodal/accept"
	"synodal/api"
	"synodal/core"
	"synodal/tally"
)

// pause is at every how many ticks a Leader tells everybody that it leads: twice, at least, while the shortest wait goes by.
const pause = 4

// peer is what is known of another core.
type peer struct {
	has    int // up to there it knows entries to be committed, or has voted for them in this ballot
	commit int // up to there it knows them to be committed
}

// propose votes for what waits first. The others do when they are told this vote.
func (x *Core) propose() {
	if len(x.waits) > 0 {
		x.vote(accept.Vote{Slot: x.commit() + 1, Ballot: x.term(), Entry: x.waits[0]})
	}
}

// settle commits what enough members have, and proposes what waits behind it. One that stood leads when all is committed that it found: so a Leader knows all that ever was by an elder ballot.
func (x *Core) settle() {
	before := x.commit()
	for len(x.waits) > 0 && tally.Reach(x.Config(), x.marks()) > x.commit() {
		x.chosen[x.commit()+1] = x.waits[0]
		x.waits = slices.Delete(x.waits, 0, 1)
		x.propose()
	}
	if x.role == api.Candidate && len(x.waits) == 0 {
		x.role = api.Leader
	}
	if x.commit() > before {
		x.tell(x.members)
	}
}

// marks tell how far each core has come: this one has voted for what waits first.
func (x *Core) marks() []tally.Mark {
	var out []tally.Mark
	for id, p := range x.peers {
		out = append(out, tally.Mark{Id: id, Index: p.has})
	}
	return append(out, tally.Mark{Id: x.id, Index: x.commit() + min(1, len(x.waits))})
}

// note takes how far a core has come. What it knows to be committed is what would have to be proposed there: it counts as a vote.
func (x *Core) note(m api.Msg) {
	if m.Term != x.term() || x.polls != nil {
		return
	}
	has := m.Commit
	if v, ok := voteOf(m); ok && v.Ballot == m.Term {
		has = v.Slot
	}
	p := &x.peers[m.From]
	p.has, p.commit = max(p.has, has), m.Commit
	x.settle()
}

// beat is a Leader's tick.
func (x *Core) beat() {
	x.still++
	if x.still >= pause {
		x.still = 0
		x.tell(x.others())
	}
}

// tell offers each of these what it does not know to be committed, and what is proposed.
func (x *Core) tell(ids []int) {
	for _, id := range ids {
		if id != x.id {
			x.send(offer, id, x.peers[id].commit)
		}
	}
}

// others are all nodes but this one: who is no member takes what is committed, too.
func (x *Core) others() []int { return core.Others(x.id) }
