package tape

import (
	"errors"

	"synodal/api"
)

// errGoes says that the power goes at this very operation, not at an earlier one.
var errGoes = errors.New("the power goes")

// mishap is what happened to an operation, around the error that is told of it: a power that goes and one that is gone are told alike, but do not leave the same bytes.
type mishap struct{ what, inner error }

func (m *mishap) Error() string { return m.what.Error() + ": " + m.inner.Error() }

func (m *mishap) Is(target error) bool { return target == m.what }

func (m *mishap) Unwrap() error { return m.inner }

// stands says whether what was being written stands on the tape then, synced or not.
func stands(err error) bool { return err == nil || errors.Is(err, errGoes) }

// number is what a face tells of an error; OK of none.
func number(err error) api.Errno {
	switch {
	case errors.Is(err, api.ErrDead):
		return api.ErrDead
	case errors.Is(err, api.ErrFull):
		return api.ErrFull
	}
	return api.OK
}
