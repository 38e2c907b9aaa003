package accept

import (
	"errors"
	"slices"
	"strconv"

	"synodal/api"
)

// The least slot and the least ballot that there are.
const (
	firstSlot   = 1
	firstBallot = 1
)

// refusal says which ballot was not promised, around why.
type refusal struct {
	ballot int
	inner  error
}

func (r *refusal) Error() string { return "ballot " + strconv.Itoa(r.ballot) + ": " + r.inner.Error() }

func (r *refusal) Unwrap() error { return r.inner }

// refuse tells why a ballot is not promised, along with votes for these slots; nil, if it is.
func (a *Acceptor) refuse(ballot int, slots ...int) error {
	switch {
	case ballot < firstBallot || slices.ContainsFunc(slots, isNone):
		return &refusal{ballot: ballot, inner: api.ErrArg}
	case ballot < a.promised:
		return &refusal{ballot: ballot, inner: api.ErrStale}
	}
	return nil
}

// isNone says of a number that it is no slot.
func isNone(slot int) bool { return slot < firstSlot || slot > api.MaxLog }

// number is what the face tells of a refusal.
func number(err error) api.Errno {
	if errors.Is(err, api.ErrArg) {
		return api.ErrArg
	}
	return api.ErrStale
}
