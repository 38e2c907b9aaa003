package node

import (
	"synodal/api"
	"synodal/core"
	"synodal/link"
)

// The kinds of messages that are the node's own; those of engines are below them.
const (
	greeting = 13 + iota // Commit: how far its sender knows
	story                // Entries: all that its sender knows to be committed
)

// post is who a node is, and what it has to send.
type post struct {
	id   int
	link *link.Link
	out  []api.Msg
}

// send takes messages whose memory nobody else has.
func (p *post) send(l ...api.Msg) { p.out = append(p.out, l...) }

// empty tells what there was to send: each message with its sender's generation, and with a stamp. That stands in a list which messages of engines leave empty.
func (p *post) empty(gen int) []api.Msg {
	out := p.out
	p.out = nil
	for i := range out {
		life, number := p.link.Stamp(out[i].To)
		out[i].From, out[i].Gen, out[i].Config.Old = p.id, gen, []int{life, number}
	}
	return out
}

// takes says whether a message is another node's, and new by its stamp.
func (p *post) takes(m api.Msg) bool {
	stamp := m.Config.Old
	return core.Reaches(m, p.id) && len(stamp) == 2 && p.link.Take(m.From, stamp[0], stamp[1]) == api.OK
}

// bare is a message as the engine sent it.
func bare(m api.Msg) api.Msg {
	m.Gen, m.Config.Old = 0, nil
	return m
}
