package node

import (
	"errors"

	"synodal/api"
	"synodal/core"
)

// propose asks the engine for a request. What is wrong with it, and that it stands already, comes ahead of the state that the engine is in.
func (n *Node) propose(e api.Entry) error {
	if err := core.Unfit(e); err != nil {
		return &mishap{where: "request", inner: err}
	}
	if err := n.find(e); !errors.Is(err, api.ErrNone) {
		return err
	}
	if err := n.engine.take(e); err != nil {
		return err
	}
	return n.turn()
}

// turn takes what the engine knows to be committed by now.
func (n *Node) turn() error { return n.grow(n.engine.news(n.commit())) }

// learn takes what another node knows to be committed, as far as that is more than is known here.
func (n *Node) learn(told []api.Entry) error {
	return n.grow(told[min(n.commit(), len(told)):])
}

// grow takes entries that are committed, which come next. They, and all that the engine must not forget, last ahead of anything that is told or sent.
func (n *Node) grow(next []api.Entry) error {
	k, w := n.grown(next)
	if err := n.keep(lasting(k, w)...); err != nil {
		n.die()
		return err
	}
	sealed := w != n.engine
	n.known, n.engine = k, w
	if sealed {
		n.spread()
	}
	n.send(w.Out()...)
	return nil
}

// grown is what is known with these entries, and the engine that is at work then. Entries that can't come next were told by no program of this kind: they count for nothing.
func (n *Node) grown(next []api.Entry) (*known, *worker) {
	k, err := n.with(next)
	if err != nil {
		return n.known, n.engine
	}
	if k.now().N == n.now().N {
		return k, n.engine
	}
	w, err := started(n.id, k.now())
	if err != nil {
		return n.known, n.engine
	}
	return k, w
}

// spread tells all others what sealed the elder generation. Whatever its engine had yet to send comes to no more than that.
func (n *Node) spread() {
	n.out = nil
	for _, other := range core.Others(n.id) {
		n.tell(other)
	}
}

// die takes from the engine what does not last.
func (n *Node) die() {
	n.dead = true
	if w, err := restarted(n.id, n.now(), n.cells.Get(engineCell)); err == nil {
		n.engine = w
	}
}
