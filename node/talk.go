package node

import (
	"cmp"

	"synodal/api"
	"synodal/core"
)

// pause is at every how many ticks a node greets all others.
const pause = 8

// beat is a tick of the node's own. An engine tells others what is committed only while one leads, and only of its own generation: so whoever knows anything greets all others, members or not.
func (n *Node) beat() {
	n.still++
	if n.still < pause || n.commit() == 0 {
		return
	}
	n.still = 0
	for _, other := range core.Others(n.id) {
		n.greet(other)
	}
}

// greet says how much is known here: who knows more tells it then, and who lacks some of it greets.
func (n *Node) greet(to int) {
	n.send(api.Msg{To: to, Kind: greeting, Commit: n.commit()})
}

// tell tells all that is known here: no log is too long for one message.
func (n *Node) tell(to int) {
	m := api.Msg{To: to, Kind: story}
	for _, e := range n.log {
		m.Entries = append(m.Entries, core.Twin(e))
	}
	n.send(m)
}

// receive takes a message. An engine's comes to the engine only if it is of its generation.
func (n *Node) receive(m api.Msg) error {
	if m.To != n.id {
		return at("message", api.ErrArg)
	}
	if !n.takes(m) {
		return nil
	}
	lead := n.lead(m)
	switch {
	case m.Kind == story:
		return n.learn(m.Entries)
	case lead > 0:
		n.tell(m.From)
	case lead < 0:
		n.greet(m.From)
	case m.Kind != greeting:
		n.engine.Step(bare(m))
	}
	return n.turn()
}

// lead tells who knows more: above 0, if this node does; below 0, if the sender of a message does; 0, if an engine's does not say so by its generation.
func (n *Node) lead(m api.Msg) int {
	if m.Kind == greeting {
		return cmp.Compare(n.commit(), m.Commit)
	}
	switch n.gens.Fence(m.Gen) {
	case api.ErrGen:
		return 1
	case api.ErrNone:
		return -1
	}
	return 0
}
