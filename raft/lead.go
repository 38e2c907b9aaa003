package raft

import (
	"synodal/api"
	"synodal/conf"
	"synodal/tally"
)

// pause is at every how many ticks a Leader tells everybody that it leads: twice, at least, while the shortest wait goes by.
const pause = 4

// peer is what a Leader knows of another core.
type peer struct {
	has  int // up to there its log is the Leader's
	next int // from there on it is told entries
}

// lead begins to lead a term. What elder terms left there is committed by an entry of this one alone.
func (x *Core) lead() {
	x.role, x.votes, x.bid, x.still = api.Leader, nil, open, 0
	for id := range x.peers {
		x.peers[id] = peer{next: x.log.Last() + 1}
	}
	if !x.endChange() && !x.Sealed() && x.log.Last() > x.commit {
		x.add(api.Entry{Kind: api.KNone})
	}
	x.tell(x.others()...)
	x.settle()
}

// endChange adds a KDone, if a change of members is committed and not at its end; it says whether it did.
func (x *Core) endChange() bool {
	now := x.Config()
	if !conf.Joint(now) || !conf.Joint(x.configAt(x.commit)) {
		return false
	}
	return x.add(api.Entry{Kind: api.KDone, Members: now.New})
}

// add lets a filler stand in the log, if there is room.
func (x *Core) add(e api.Entry) bool {
	_, errno := x.log.Append(x.term, e)
	return errno == api.OK
}

// beat is a Leader's tick.
func (x *Core) beat() {
	x.still++
	if x.still >= pause {
		x.still = 0
		x.tell(x.others()...)
	}
}

// tell sends each of these what it has not got, as far as is known.
func (x *Core) tell(ids ...int) {
	for _, id := range ids {
		if id == x.id {
			continue
		}
		ahead := x.peers[id].next - 1
		terms, list := x.log.From(ahead + 1)
		x.send(api.Msg{To: id, Kind: entries, Term: x.term, Index: ahead, Last: x.log.Term(ahead),
			Commit: x.commit, Terms: terms, Entries: list})
	}
}

// note takes what a core says of its log. Where that is another one at what it was last told from, it is told from where it surely is the same; what else it refused it has got since.
func (x *Core) note(m api.Msg) {
	if x.role != api.Leader || m.Term != x.term {
		return
	}
	p := &x.peers[m.From]
	switch {
	case m.Yes:
		p.has = max(p.has, m.Index)
		p.next = max(p.next, p.has+1)
		x.settle()
	case m.Last > p.has && m.Last == p.next-1:
		p.next = max(x.base, m.Index) + 1
		x.tell(m.From)
	}
}

// settle commits what quorums have, with all that follows. A change of members comes to its end. Who is no member then leads no more; and it tells everybody: whoever else is left out, and does not know it, would lead next, only to find the same.
func (x *Core) settle() {
	before := x.commit
	for x.advance() {
		x.endChange()
	}
	switch {
	case x.commit == before:
	case x.counts(x.id):
		x.tell(conf.Members(x.Config())...)
	default:
		x.tell(x.others()...)
		x.rest()
	}
}

// advance says whether more is committed than was: up to an entry of this term that quorums have, but nothing behind a seal.
func (x *Core) advance() bool {
	index := tally.Reach(x.Config(), x.marks())
	if x.log.Term(index) != x.term {
		return false
	}
	if seal := x.find(x.base, api.KMigrate); seal > 0 {
		index = min(index, seal)
	}
	if index <= x.commit {
		return false
	}
	x.commit = index
	return true
}

// marks tell how far each core has come: the Leader to its log's end.
func (x *Core) marks() []tally.Mark {
	var out []tally.Mark
	for id, p := range x.peers {
		out = append(out, tally.Mark{Id: id, Index: p.has})
	}
	return append(out, tally.Mark{Id: x.id, Index: x.log.Last()})
}
