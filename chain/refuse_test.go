package chain

import (
	"errors"
	"testing"

	"synodal/api"
	"synodal/core"
)

// An error is of its number however it is wrapped; with a flaw in it it is ErrBad. It says of which instance it is.
func TestNumber(t *testing.T) {
	for _, e := range []api.Errno{api.ErrKind, api.ErrArg, api.ErrLong, api.ErrMany, api.ErrNone, api.ErrSeal, api.ErrLeader, api.ErrIs, api.ErrFull, api.ErrBad} {
		of := &refusal{number: 3, inner: e}
		if number(e) != e || number(of) != e || number(&refusal{number: 1, inner: of}) != e || !errors.Is(of, e) {
			t.Errorf("number of %v: %v", e, number(of))
		}
		if want := "instance 3: " + e.Error(); of.Error() != want {
			t.Errorf("%q, not %q", of.Error(), want)
		}
		flaw := &refusal{number: 2, inner: &core.Flaw{Inner: e}}
		if number(flaw) != api.ErrBad || number(flaw.inner) != api.ErrBad {
			t.Errorf("number of a flaw around %v: %v", e, number(flaw))
		}
	}
	if number(nil) != api.OK || number(errors.New("another one")) != api.OK {
		t.Errorf("number of nothing: %v", number(nil))
	}
}

// What an instance refuses is told around which one it is.
func TestRefusal(t *testing.T) {
	for what, x := range some(t) {
		_, err := x.last.take(api.Entry{})
		var of *refusal
		if !errors.As(err, &of) || of.number != x.Instances() || number(err) != api.ErrKind {
			t.Errorf("%s: %v", what, err)
		}
	}
	x := ample(t)
	_, _, err := restore(1, append(x.bytes(), newCore(t, 1, 0, 1).last.Save()...))
	var of *refusal
	if !errors.As(err, &of) || of.number != 3 || number(err) != api.ErrBad {
		t.Errorf("an instance that is another one: %v", err)
	}
}
