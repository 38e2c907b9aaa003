package cells

import (
	"errors"
	"strconv"

	"synodal/api"
)

// maxBytes is how many a cell may have.
const maxBytes = 12000

// refusal says of a row of cells which one can't be put, around why.
type refusal struct {
	at    int
	inner error
}

func (x *refusal) Error() string { return "cell " + strconv.Itoa(x.at) + ": " + x.inner.Error() }

func (x *refusal) Unwrap() error { return x.inner }

// refuse tells the first cell of a row that can't be put, whatever the tape says; nil, if there is none.
func refuse(l ...api.Cell) error {
	places := map[int]int{} // where in the row each N stands
	for i, x := range l {
		if err := refuseOne(x, places); err != nil {
			return &refusal{at: i, inner: err}
		}
		places[x.N] = i
	}
	return nil
}

// refuseOne holds a cell against the rules, and against those ahead of it.
func refuseOne(x api.Cell, ahead map[int]int) error {
	_, twice := ahead[x.N]
	switch {
	case !isCell(x.N) || twice:
		return api.ErrArg
	case len(x.Data) > maxBytes:
		return api.ErrLong
	}
	return nil
}

// number is what the face tells of an error, of the row's or of the tape's; OK of none.
func number(err error) api.Errno {
	switch {
	case errors.Is(err, api.ErrArg):
		return api.ErrArg
	case errors.Is(err, api.ErrLong):
		return api.ErrLong
	case errors.Is(err, api.ErrDead):
		return api.ErrDead
	case errors.Is(err, api.ErrFull):
		return api.ErrFull
	}
	return api.OK
}
