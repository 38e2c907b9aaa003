package node

import (
	"errors"

	"synodal/api"
	"synodal/core"
)

// mishap is what went wrong, with its place.
type mishap struct {
	where string
	inner error
}

func (m *mishap) Error() string { return m.where + ": " + m.inner.Error() }

func (m *mishap) Unwrap() error { return m.inner }

// at puts a place around an error; nil, if it is none.
func at(where string, e api.Errno) error {
	if e == api.OK {
		return nil
	}
	return &mishap{where: where, inner: e}
}

// number is what a face tells of an error, OK of none: of a flaw that it is one, whatever it is told by.
func number(err error) api.Errno {
	var flaw *core.Flaw
	if errors.As(err, &flaw) {
		return api.ErrBad
	}
	var e api.Errno
	errors.As(err, &e)
	return e
}
