package node

import (
	"slices"

	"synodal/api"
	"synodal/client"
	"synodal/core"
	"synodal/seal"
)

// The first generation's number, and the index behind which it begins.
const (
	firstNumber = 1
	firstBase   = 0
)

// known is what a node knows to be committed, and all that follows from it. It is not changed any more when it is made: what knows more is another one, which counts when it lasts.
type known struct {
	first   []byte // the first generation, as it lasts
	log     []api.Entry
	table   *client.Table // where requests stand
	gens    *seal.Gens
	members []int // whom the last KConf named; ahead of it the first ones
}

// begun is what a node of a first generation knows.
func begun(first api.Generation) (*known, error) {
	gens, e := seal.New(first)
	if e == api.OK && (first.N != firstNumber || first.Base != firstBase) {
		e = api.ErrArg
	}
	if e != api.OK {
		return nil, at("first generation", e)
	}
	return &known{first: gens.Save(), table: client.New(), gens: gens, members: gens.Now().Config.New}, nil
}

// with is what is known when these entries are, too, which come next.
func (k *known) with(next []api.Entry) (*known, error) {
	if len(next) == 0 {
		return k, nil
	}
	more, err := begun(k.gens.All()[0])
	if err != nil {
		return nil, err
	}
	for _, e := range slices.Concat(k.log, next) {
		if err := more.add(core.Twin(e)); err != nil {
			return nil, err
		}
	}
	return more, nil
}

// add takes the next entry. No KMigrate is committed while members change: there those count alone whom the last KConf named.
func (k *known) add(e api.Entry) error {
	k.log = append(k.log, e)
	k.table.Put(e)
	switch e.Kind {
	case api.KConf:
		k.members = e.Members
	case api.KMigrate:
		return at("seal", k.gens.Seal(k.commit(), e.To, api.Config{New: k.members}))
	}
	return nil
}

// find tells ErrIs of a request that is placed, ErrStale of one that can't be any more, ErrNone of one that may yet be.
func (k *known) find(e api.Entry) error {
	_, errno := k.table.Ask(e.Client, e.Seq)
	if errno == api.OK {
		errno = api.ErrIs
	}
	return at("place", errno)
}

func (k *known) commit() int { return len(k.log) }

// now is the generation at work behind all of this.
func (k *known) now() api.Generation { return k.gens.Now() }
