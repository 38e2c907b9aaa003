package raft

import (
	"synodal/api"
	"synodal/core"
)

// The kinds of messages. One that wants an answer has the answer's kind right behind it.
const (
	ask     = 1 + iota // for a vote; Index, Last: of the last entry the index and the term
	vote               // Yes; if not, Index: how the bid goes
	entries            // of a Leader's: Entries, of Terms, behind Index, where an entry of the term Last stands; Commit
	taken              // Yes: up to Index the log is the Leader's; if not, it is not so at Last, but up to Index
)

// post is who a core is, and what it has to send.
type post struct {
	id  int
	out []api.Msg
}

// send takes a message whose memory nobody else has.
func (p *post) send(m api.Msg) {
	m.From = p.id
	p.out = append(p.out, m)
}

func (p *post) empty() []api.Msg {
	out := p.out
	p.out = nil
	return out
}

// others are all nodes but this one. Who is no member is among them: it may be the last to know, and would stand on and on.
func (p *post) others() []int { return core.Others(p.id) }
