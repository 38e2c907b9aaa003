package raft

import "synodal/api"

// heed begins a term, if it is newer. Who stood in an elder one did so in vain.
func (x *Core) heed(term int) {
	if term <= x.term {
		return
	}
	if x.role == api.Candidate {
		x.bid = max(x.bid, spoilt)
	}
	x.term, x.voted = term, nobody
	x.rest()
}

// rest lets a core neither lead nor stand.
func (x *Core) rest() { x.role, x.votes = api.Follower, nil }

// yield gives way to whoever leads this term.
func (x *Core) yield(term int) {
	if term == x.term {
		x.rest()
		x.trust()
	}
}

// trust leaves it to another core to lead, for as long as a wait.
func (x *Core) trust() {
	x.bid = open
	x.wait.Reset(x.draw)
}

// answer tells the answer to a message that wants one. It tells the term, too: what is of an elder one is refused.
func (x *Core) answer(m api.Msg) api.Msg {
	a := api.Msg{To: m.From, Kind: m.Kind + 1, Term: x.term}
	switch {
	case m.Kind == ask && x.grant(m):
		a.Yes = true
	case m.Kind == ask:
		a.Index = x.verdict(m)
	case x.take(m):
		a.Yes, a.Index = true, m.Index+len(m.Entries)
	default:
		a.Index, a.Last = x.commit, m.Index
	}
	return a
}

// grant says whether one who stands gets this core's vote: it has one a term, for a log that is as new as its own.
func (x *Core) grant(m api.Msg) bool {
	if m.Term < x.term || x.voted != nobody && x.voted != m.From || !x.log.Newer(m.Index, m.Last) {
		return false
	}
	x.voted = m.From
	x.trust()
	return true
}

// verdict tells one who does not get this core's vote how its bid goes.
func (x *Core) verdict(m api.Msg) int {
	last := x.log.Last()
	alike := m.Index == last && m.Last == x.log.Term(last)
	switch {
	case !x.log.Newer(m.Index, m.Last), x.role == api.Leader:
		return beaten
	case alike && x.role == api.Candidate && x.id < m.From: // one of the two must wait
		return beaten
	}
	return spoilt
}

// take says whether a Leader's entries stand in the log now. Of what the Leader knows to be committed, this core knows what it has of the Leader's.
func (x *Core) take(m api.Msg) bool {
	if m.Term < x.term {
		return false
	}
	index, e := x.log.Put(m.Index, m.Last, m.Terms, m.Entries)
	if e != api.OK {
		return false
	}
	x.commit = max(x.commit, min(m.Commit, index))
	return true
}
