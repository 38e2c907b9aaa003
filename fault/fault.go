// Package fault: errors that say where. See doc/01-fault.md.
package fault

import (
	"errors"

	"synodal/api"
)

// place is one place around an error. It is always handed out by its address: held against each other as values, two of them would compare the errors inside, and that panics for kinds of errors that can't be compared.
type place struct {
	where string
	inner error
}

func (p *place) Error() string { return p.where + ": " + p.inner.Error() }

func (p *place) Unwrap() error { return p.inner }

// Wrap puts a place around an error; New begins one of a number.
func Wrap(where string, err error) error {
	if err == nil {
		return nil
	}
	if len(Where(err)) >= api.MaxWhere {
		return err
	}
	return &place{where: where, inner: err}
}

func New(where string, e api.Errno) error {
	if e == api.OK {
		return nil
	}
	return &place{where: where, inner: e}
}

// Kind tells its number, Where its places, the outermost first, Is whether it is of a number.
func Kind(err error) api.Errno {
	if err == nil {
		return api.OK
	}
	var e api.Errno
	if !errors.As(err, &e) || e == api.OK {
		return api.ErrBad
	}
	return e
}

func Where(err error) []string {
	var places []string
	for p := outermost(err); p != nil; p = outermost(p.inner) {
		places = append(places, p.where)
	}
	return places
}

// Is asks the number, not err itself: the number 0 and an error that has none are of ErrBad, which is nowhere in them.
func Is(err error, e api.Errno) bool { return errors.Is(Kind(err), e) }

// outermost finds the first place of an error, behind what others have put around it, too; nil, if it has none.
func outermost(err error) *place {
	var p *place
	if !errors.As(err, &p) {
		return nil
	}
	return p
}
