package chain

import (
	"errors"
	"strconv"

	"synodal/api"
	"synodal/core"
)

// refusal says which instance refused something, around why.
type refusal struct {
	number int
	inner  error
}

func (r *refusal) Error() string {
	return "instance " + strconv.Itoa(r.number) + ": " + r.inner.Error()
}

func (r *refusal) Unwrap() error { return r.inner }

// number is what a face tells of an error: of a flaw that it is one, whatever it is told by.
func number(err error) api.Errno {
	var flaw *core.Flaw
	if errors.As(err, &flaw) {
		return api.ErrBad
	}
	var e api.Errno
	errors.As(err, &e)
	return e
}
