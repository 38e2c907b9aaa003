package client

import (
	"errors"
	"strconv"

	"synodal/api"
)

// refusal says which request has no place, around why.
type refusal struct {
	client, seq int
	inner       error
}

func (r *refusal) Error() string {
	return "request " + strconv.Itoa(r.seq) + " of client " + strconv.Itoa(r.client) + ": " + r.inner.Error()
}

func (r *refusal) Unwrap() error { return r.inner }

// number is what a face tells of an error, OK of none.
func number(err error) api.Errno {
	for _, e := range []api.Errno{api.ErrArg, api.ErrStale, api.ErrNone} {
		if errors.Is(err, e) {
			return e
		}
	}
	return api.OK
}
