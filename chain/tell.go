package chain

import (
	"synodal/api"
	"synodal/core"
)

// The kinds of messages that are of no instance; those below them are of one.
const (
	story = 8 + iota // what instances at their end have made, behind Index
	place            // up to where its sender knows: the answer to a story; if Yes, it asks for one
)

// pause is at every how many ticks the past is spread.
const pause = 4

// isPost says whether a message may be one to this core.
func (x *Core) isPost(m api.Msg) bool {
	return m.Kind <= place && m.Term >= 0 && core.Reaches(m, x.id)
}

// turn sends what the last instance has to say, and goes on to the next one behind its end.
func (x *Core) turn() {
	x.out = append(x.out, x.last.Out()...)
	if x.last.Sealed() {
		x.pass(nil)
	}
}

// learn takes what a story tells right behind what is known.
func (x *Core) learn(m api.Msg) {
	if from := x.Commit() - m.Index; from >= 0 && from < len(m.Entries) {
		x.pass(m.Entries[from:])
	}
}

// pass goes on to the instance behind the last KConf that is known, by the last instance or by what comes next to it, to be committed.
func (x *Core) pass(next []api.Entry) {
	if x.grow(append(x.last.known(x.end()), next...)) {
		x.last = opened(x.id, x.past)
		x.spread()
	}
}

// spread tells the members of all instances what ended the last one that is at its end, as far as they are not known to know it. A member of one of these must: it may be the only one that knows.
func (x *Core) spread() {
	x.still = 0
	if !x.isElder(x.id) {
		return
	}
	for other := range api.MaxNodes {
		if other != x.id && (x.isElder(other) || x.isMember(other)) {
			x.tell(other)
		}
	}
}

// tell tells a story to one that is not known to know it.
func (x *Core) tell(to int) {
	behind := x.knows[to]
	if behind >= x.end() {
		return
	}
	m := api.Msg{Kind: story, To: to, Index: behind}
	for _, e := range x.entries[behind-x.base:] {
		m.Entries = append(m.Entries, core.Twin(e))
	}
	x.send(m)
}

// send sends a message of the chain's own: of its term, with how far this core knows.
func (x *Core) send(m api.Msg) {
	m.From, m.Term, m.Commit = x.id, x.Term(), x.Commit()
	x.out = append(x.out, m)
}
