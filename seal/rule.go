package seal

import (
	"synodal/api"
	"synodal/conf"
)

// maxGens is how many generations there may be.
const maxGens = 60

// The least number that a generation has, and the least index behind which one begins.
const (
	firstN    = 1
	firstBase = 0
)

// begun is one generation alone.
func begun(first api.Generation) (*Gens, error) {
	g := &Gens{}
	if err := g.add(first); err != nil {
		return nil, err
	}
	return g, nil
}

// add takes a generation behind those that there are. All of them come in here, so that none is loaded that could not have begun.
func (g *Gens) add(next api.Generation) error {
	if e := g.wrong(next); e != api.OK {
		return &refusal{n: next.N, inner: e}
	}
	g.list = append(g.list, twin(next))
	return nil
}

// wrong tells why a generation may not be the next one.
func (g *Gens) wrong(next api.Generation) api.Errno {
	if !g.follows(next) || !isEngine(next.Engine) {
		return api.ErrArg
	}
	if e := conf.Check(next.Config); e != api.OK {
		return e
	}
	switch {
	case conf.Joint(next.Config):
		return api.ErrArg
	case len(g.list) >= maxGens:
		return api.ErrMany
	}
	return api.OK
}

// follows says whether a generation has the number and the base of one that comes next.
func (g *Gens) follows(next api.Generation) bool {
	if len(g.list) == 0 {
		return next.N >= firstN && next.Base >= firstBase
	}
	return next.N == g.last().N+1 && next.Base > g.last().Base
}

func isEngine(engine int) bool { return engine == api.Raft || engine == api.Chain }
