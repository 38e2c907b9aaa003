package node

import (
	"synodal/api"
	"synodal/core"
	"synodal/link"
	"synodal/tape"
)

// founded is a node of a first generation, on a tape that is new.
func founded(t *tape.Tape, id int, g api.Generation) (*Node, error) {
	if !core.IsNode(id) {
		return nil, at("id", api.ErrArg)
	}
	k, err := begun(g)
	if err != nil {
		return nil, err
	}
	s, err := opened(t)
	if err != nil {
		return nil, err
	}
	w, err := started(id, k.now())
	if err != nil {
		return nil, err
	}
	return alive(id, s, k, w)
}

// reopened is the node that a tape has.
func reopened(t *tape.Tape, id int) (*Node, error) {
	s, err := opened(t)
	if err != nil {
		return nil, err
	}
	if len(s.cells.All()) == 0 {
		return nil, at("tape", api.ErrNone)
	}
	k, err := s.remembered()
	if err != nil {
		return nil, &core.Flaw{Inner: err}
	}
	w, err := restarted(id, k.now(), s.cells.Get(engineCell))
	if err != nil {
		return nil, err
	}
	return alive(id, s, k, w)
}

// alive is a node in a new life. That lasts ahead of anything that the node sends: by it others tell what it sends from what it sent in elder ones.
func alive(id int, s store, k *known, w *worker) (*Node, error) {
	life := s.life() + 1
	if err := s.keep(append(lasting(k, w), lifeAs(life))...); err != nil {
		return nil, err
	}
	return &Node{known: k, store: s, post: post{id: id, link: link.New(id, life)}, engine: w}, nil
}
