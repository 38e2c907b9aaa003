package chain

import (
	"slices"

	"synodal/api"
	"synodal/core"
	"synodal/paxos"
	"synodal/wire"
)

// bytes is the past as what lasts of a core; behind them comes what lasts of the last instance. By its Yes it is told from an instance.
func (p *past) bytes() []byte {
	return core.Pack(api.Msg{Index: p.base, Yes: true, Entries: p.entries, Config: api.Config{New: p.first}})
}

// restore reads what lasts of a core.
func restore(id int, b []byte) (*past, *instance, error) {
	frames, _, e := wire.Split(b)
	if e == api.OK && len(frames) == 0 {
		e = api.ErrCut
	}
	if e != api.OK {
		return nil, nil, &core.Flaw{Inner: e}
	}
	head, _ := wire.Frame(frames[0])
	p, err := core.Restore(id, b[:len(head)], remembered, (*past).bytes)
	if err != nil {
		return nil, nil, err
	}
	last, err := reopened(id, b[len(head):], p)
	if err != nil {
		return nil, nil, err
	}
	return p, last, nil
}

// remembered takes the past of the message as which it was saved.
func remembered(m api.Msg) (*past, api.Errno) {
	p := &past{first: m.Config.New, base: m.Index}
	p.grow(m.Entries)
	return p, api.OK
}

// reopened is the instance behind a past, from what it saved. It must be no other one, and not at its end.
func reopened(id int, b []byte, p *past) (*instance, error) {
	number := p.count() + 1
	c, e := paxos.Load(id, b)
	if e != api.OK {
		return nil, &refusal{number: number, inner: e}
	}
	i := &instance{Core: c, number: number}
	if !slices.Equal(i.Config().New, p.members()) || !i.isBehind(p.end()) || p.ended(i.known(p.end())) > 0 {
		return nil, &refusal{number: number, inner: &core.Flaw{Inner: api.ErrArg}}
	}
	return i, nil
}

// isBehind says whether it begins behind an index: what it knows to be committed is right behind that.
func (i *instance) isBehind(index int) bool {
	_, at := i.Entry(index)
	_, next := i.Entry(index + 1)
	return i.Commit() >= index && !at && next == (i.Commit() > index)
}
