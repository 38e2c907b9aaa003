package wal

import (
	"errors"
	"strconv"

	"synodal/api"
	"synodal/tape"
	"synodal/wire"
)

// errPart says that bytes end within a record. That is no fault of theirs: a power that goes while a record is written leaves it so.
var errPart = errors.New("a part of a record")

// tail is what stands behind the whole records, wrapped with the place where it begins.
type tail struct {
	at    int
	inner error
}

func (x *tail) Error() string { return "byte " + strconv.Itoa(x.at) + ": " + x.inner.Error() }

func (x *tail) Unwrap() error { return x.inner }

// wholeSize tells how many bytes the records take that stand whole at the beginning of b, and what stands behind them; nil, if nothing does.
func wholeSize(b []byte) (int, error) {
	_, size, e := wire.Split(b)
	switch {
	case e != api.OK:
		return size, &tail{at: size, inner: e}
	case size < len(b):
		return size, &tail{at: size, inner: errPart}
	}
	return size, nil
}

// mend ends a tape behind its whole records, if a part of one is all that stands there, and tells the number of what it can't mend. A tape that needs no mending is not written to.
func mend(t *tape.Tape, whole []byte, err error) api.Errno {
	switch {
	case errors.Is(err, errPart):
		return t.Replace(whole)
	case errors.Is(err, api.ErrSum):
		return api.ErrSum
	case errors.Is(err, api.ErrLong):
		return api.ErrLong
	}
	return api.OK
}
