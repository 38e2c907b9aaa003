package raft

import (
	"errors"
	"slices"
	"strconv"

	"synodal/api"
	"synodal/conf"
)

// room is how many entries a log may have, all in all, and yet take one more of a client's: the rest is for fillers.
const room = api.MaxLog - 8

// refusal says of what kind an entry was that is not proposed, around why.
type refusal struct {
	kind  int
	inner error
}

func (r *refusal) Error() string {
	return "entry of kind " + strconv.Itoa(r.kind) + ": " + r.inner.Error()
}

func (r *refusal) Unwrap() error { return r.inner }

// flaw is ErrBad around what tells that bytes are no core's.
type flaw struct{ inner error }

func (f *flaw) Error() string { return api.ErrBad.Error() + ": " + f.inner.Error() }

func (f *flaw) Is(target error) bool { return target == error(api.ErrBad) }

func (f *flaw) Unwrap() error { return f.inner }

// number is what a face tells of an error: ErrBad ahead of what it is told by.
func number(err error) api.Errno {
	for _, e := range []api.Errno{
		api.ErrBad, api.ErrKind, api.ErrArg, api.ErrLong, api.ErrMany, api.ErrNone,
		api.ErrSeal, api.ErrLeader, api.ErrBusy, api.ErrIs, api.ErrFull,
	} {
		if errors.Is(err, e) {
			return e
		}
	}
	return api.OK
}

// refuse tells why an entry is not proposed: for what it is, whoever is asked, or for what this core is.
func (x *Core) refuse(e api.Entry) error {
	err := unfit(e)
	if err == nil {
		err = x.barred(e)
	}
	if err == nil {
		return nil
	}
	return &refusal{kind: e.Kind, inner: err}
}

// unfit tells what is wrong with an entry.
func unfit(e api.Entry) error {
	if e.Kind != api.KData && e.Kind != api.KConf && e.Kind != api.KMigrate {
		return api.ErrKind
	}
	if e.Client < 1 || e.Seq < 1 {
		return api.ErrArg
	}
	if errno := unfitPart(e); errno != api.OK {
		return errno
	}
	if spare(e) {
		return api.ErrArg
	}
	return nil
}

// unfitPart tells what is wrong with that part of an entry which its kind has.
func unfitPart(e api.Entry) api.Errno {
	switch {
	case e.Kind == api.KConf:
		return conf.Check(api.Config{New: e.Members})
	case e.Kind == api.KData && len(e.Data) > api.MaxData:
		return api.ErrLong
	case e.Kind == api.KMigrate && e.To != api.Raft && e.To != api.Chain:
		return api.ErrArg
	}
	return api.OK
}

// spare says whether an entry has a part that its kind has not.
func spare(e api.Entry) bool {
	return e.Data != "" && e.Kind != api.KData ||
		len(e.Members) > 0 && e.Kind != api.KConf ||
		e.To != 0 && e.Kind != api.KMigrate
}

// barred tells why this core does not take an entry now. What takes the members, or the engine, from one to another asks for more than mere data.
func (x *Core) barred(e api.Entry) error {
	if x.find(x.base, api.KMigrate) > 0 {
		return api.ErrSeal
	}
	if x.role != api.Leader {
		return api.ErrLeader
	}
	busy := conf.Joint(x.Config()) || x.find(x.commit, api.KConf, api.KDone) > 0
	switch e.Kind {
	case api.KConf:
		if !busy && slices.Equal(e.Members, x.Config().New) {
			return api.ErrIs
		}
		fallthrough
	case api.KMigrate:
		if busy {
			return api.ErrBusy
		}
		fallthrough
	default:
		if x.log.Last() >= room {
			return api.ErrFull
		}
	}
	return nil
}
