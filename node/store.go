package node

import (
	"bytes"
	"slices"
	"strconv"

	"synodal/api"
	"synodal/cells"
	"synodal/seal"
	"synodal/tape"
	"synodal/wire"
)

// What lasts of a node, by cells. The engine's is the last one on the tape: where anything is cut off, it is, too.
const (
	lifeCell   = iota // the life that it is in
	firstCell         // the first generation
	logCell           // what it knows to be committed, as a story
	engineCell        // what its engine has saved
)

// store is where a node lasts.
type store struct {
	tape  *tape.Tape
	cells *cells.Cells
	dead  bool
}

func opened(t *tape.Tape) (store, error) {
	c, e := cells.Open(t)
	return store{tape: t, cells: c}, at("tape", e)
}

// awake tells ErrDead, if the power is gone. Whoever has met that is dead for good.
func (s *store) awake() error {
	s.dead = s.dead || s.tape.Dead()
	if s.dead {
		return at("tape", api.ErrDead)
	}
	return nil
}

// keep lets cells last, all at once, as far as they do not yet.
func (s *store) keep(l ...api.Cell) error {
	l = slices.DeleteFunc(l, func(c api.Cell) bool { return bytes.Equal(c.Data, s.cells.Get(c.N)) })
	return at("tape", s.cells.Put(l...))
}

// life tells the life that lasts; 0, if none was begun.
func (s *store) life() int {
	life, _ := strconv.Atoi(string(s.cells.Get(lifeCell)))
	return life
}

// remembered is what is known by what lasts.
func (s *store) remembered() (*known, error) {
	gens, e := seal.Load(s.cells.Get(firstCell))
	if e != api.OK {
		return nil, at("first generation", e)
	}
	m, e := wire.ParseMsg(s.cells.Get(logCell))
	if e != api.OK {
		return nil, at("log", e)
	}
	k, err := begun(gens.Now())
	if err != nil {
		return nil, err
	}
	return k.with(m.Entries)
}

// lifeAs is a life as it lasts.
func lifeAs(life int) api.Cell { return api.Cell{N: lifeCell, Data: []byte(strconv.Itoa(life))} }

// lasting is what is known, and an engine, as they last.
func lasting(k *known, w *worker) []api.Cell {
	log, _ := wire.EncodeMsg(api.Msg{Kind: story, Entries: k.log}) // nothing comes in that can't be sent
	return []api.Cell{{N: firstCell, Data: k.first}, {N: logCell, Data: log}, {N: engineCell, Data: w.Save()}}
}
