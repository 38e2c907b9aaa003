package node

import (
	"errors"
	"testing"

	"synodal/api"
	"synodal/core"
)

// An error says where it went wrong, and is of its number; with a flaw in it it is ErrBad.
func TestNumber(t *testing.T) {
	for _, e := range []api.Errno{api.ErrArg, api.ErrNone, api.ErrKind, api.ErrMany, api.ErrLong, api.ErrIs, api.ErrSum, api.ErrBad, api.ErrDead, api.ErrFull, api.ErrBusy, api.ErrLeader, api.ErrSeal, api.ErrStale} {
		err := at("tape", e)
		if number(err) != e || number(&mishap{where: "node", inner: err}) != e || !errors.Is(err, e) || err.Error() != "tape: "+e.Error() {
			t.Errorf("number of %v: %v, %q", e, number(err), err.Error())
		}
		if bad := (&core.Flaw{Inner: err}); number(bad) != api.ErrBad || number(&mishap{where: "node", inner: bad}) != api.ErrBad {
			t.Errorf("number of a flaw around %v: %v", e, number(bad))
		}
	}
	if at("tape", api.OK) != nil || number(nil) != api.OK {
		t.Error("nothing is wrong, and it is told")
	}
}

// What is wrong is told around its place.
func TestPlaces(t *testing.T) {
	flawed := generation(api.Raft)
	_, err := founded(newTape(t), 0, flawed)
	var of *mishap
	if !errors.As(err, &of) || of.where != "first generation" || !errors.Is(err, api.ErrNone) {
		t.Errorf("%v", err)
	}
	n := taught(t, api.Chain, entry(api.KData, 1, 5)).nodes[0]
	for _, x := range []struct {
		e     api.Entry
		where string
		errno api.Errno
	}{
		{entry(api.KDone, 1, 1), "request", api.ErrKind}, {entry(api.KData, 1, 5), "place", api.ErrIs},
		{entry(api.KData, 1, 4), "place", api.ErrStale}, {entry(api.KData, 1, 6), "engine", api.ErrLeader},
	} {
		if err := n.propose(x.e); !errors.As(err, &of) || of.where != x.where || !errors.Is(err, x.errno) {
			t.Errorf("%+v: %v", x.e, err)
		}
	}
}
