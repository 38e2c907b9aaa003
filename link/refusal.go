package link

import (
	"errors"
	"strconv"

	"synodal/api"
)

// refusal says which message was not taken, around why.
type refusal struct {
	life, n int
	inner   error
}

func (x *refusal) Error() string {
	return "message " + strconv.Itoa(x.n) + " of life " + strconv.Itoa(x.life) + ": " + x.inner.Error()
}

func (x *refusal) Unwrap() error { return x.inner }

// number is what the face tells of a refusal.
func number(err error) api.Errno {
	switch {
	case errors.Is(err, api.ErrArg):
		return api.ErrArg
	case errors.Is(err, api.ErrStale):
		return api.ErrStale
	}
	return api.ErrIs
}
