package paxos

import "synodal/api"

// heed promises a ballot, if it is newer. Who stood, or led, by an elder one does so no more.
func (x *Core) heed(ballot int) {
	if ballot > x.term() {
		x.pledge(ballot)
		x.rest()
	}
}

// rest lets a core neither lead nor stand: it forgets what was not committed.
func (x *Core) rest() {
	x.role, x.polls, x.found, x.waits = api.Follower, nil, nil, nil
}

// take learns what one that leads knows, and votes for what it proposes.
func (x *Core) take(m api.Msg) {
	if m.Term < x.term() {
		return
	}
	x.learn(m)
	if v, ok := voteOf(m); ok {
		x.vote(v)
	}
}

// answer tells the one that asked what it asked for, or a newer ballot than its own. Whoever has the newest one is left to lead, for as long as a wait.
func (x *Core) answer(m api.Msg) {
	if m.Term == x.term() {
		x.wait.Reset(x.draw)
	}
	x.send(m.Kind+1, m.From, m.Commit)
}
