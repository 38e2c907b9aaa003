package core

import (
	"errors"
	"strconv"

	"synodal/api"
)

// Refusal says of what kind an entry was that is not proposed, around why.
type Refusal struct {
	Kind  int
	Inner error
}

func (r *Refusal) Error() string {
	return "entry of kind " + strconv.Itoa(r.Kind) + ": " + r.Inner.Error()
}

func (r *Refusal) Unwrap() error { return r.Inner }

// Refuse tells why an entry is not proposed: for what it is, whoever is asked, or for what bars it from a core.
func Refuse(e api.Entry, barred func(api.Entry) error) error {
	err := Unfit(e)
	if err == nil {
		err = barred(e)
	}
	if err == nil {
		return nil
	}
	return &Refusal{Kind: e.Kind, Inner: err}
}

// Flaw is ErrBad around what tells that bytes are no core's.
type Flaw struct{ Inner error }

func (f *Flaw) Error() string { return api.ErrBad.Error() + ": " + f.Inner.Error() }

func (f *Flaw) Is(target error) bool { return target == error(api.ErrBad) }

func (f *Flaw) Unwrap() error { return f.Inner }

// Number is what a face tells of an error: ErrBad ahead of what it is told by.
func Number(err error) api.Errno {
	for _, e := range []api.Errno{
		api.ErrBad, api.ErrKind, api.ErrArg, api.ErrLong, api.ErrMany, api.ErrNone,
		api.ErrSeal, api.ErrLeader, api.ErrBusy, api.ErrIs, api.ErrFull,
	} {
		if errors.Is(err, e) {
			return e
		}
	}
	return api.OK
}
