package seal

import (
	"errors"
	"strconv"

	"synodal/api"
)

// refusal says which generation may not be, or can't be read, around why.
type refusal struct {
	n     int
	inner error
}

func (r *refusal) Error() string { return "generation " + strconv.Itoa(r.n) + ": " + r.inner.Error() }

func (r *refusal) Unwrap() error { return r.inner }

// flaw is ErrBad around what tells that Save did not make some bytes.
type flaw struct{ inner error }

func (f *flaw) Error() string { return api.ErrBad.Error() + ": " + f.inner.Error() }

func (f *flaw) Is(target error) bool { return target == error(api.ErrBad) }

func (f *flaw) Unwrap() error { return f.inner }

// number is what a face tells of an error, OK of none: ErrBad ahead of what it is told by.
func number(err error) api.Errno {
	for _, e := range []api.Errno{api.ErrBad, api.ErrCut, api.ErrMore, api.ErrArg, api.ErrNone, api.ErrMany} {
		if errors.Is(err, e) {
			return e
		}
	}
	return api.OK
}
