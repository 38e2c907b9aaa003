package seal

import (
	"errors"
	"testing"

	"synodal/api"
)

// An error is of its number however it is wrapped; with a flaw in it it is ErrBad. It says of which generation it is.
func TestNumber(t *testing.T) {
	for _, e := range []api.Errno{api.ErrBad, api.ErrCut, api.ErrMore, api.ErrArg, api.ErrNone, api.ErrMany} {
		of := &refusal{n: 3, inner: e}
		if number(e) != e || number(of) != e || !errors.Is(of, e) {
			t.Errorf("number of %v: %v", e, number(of))
		}
		if want := "generation 3: " + e.Error(); of.Error() != want {
			t.Errorf("%q, not %q", of.Error(), want)
		}
		bad := &flaw{inner: of}
		if number(bad) != api.ErrBad || !errors.Is(bad, e) {
			t.Errorf("number of a flaw around %v: %v", e, number(bad))
		}
		if want := "bad: generation 3: " + e.Error(); bad.Error() != want {
			t.Errorf("%q, not %q", bad.Error(), want)
		}
	}
	if number(nil) != api.OK {
		t.Errorf("number of nothing: %v", number(nil))
	}
}

// What is wrong is told around which generation it is, and why it is.
func TestRefusal(t *testing.T) {
	l := three()
	l[1].Config.New = nil
	_, err := restored(raw(l...))
	var of *refusal
	if !errors.As(err, &of) || of.n != 5 || !errors.Is(err, api.ErrNone) || number(err) != api.ErrBad {
		t.Errorf("no members: %v", err)
	}
	b := raw(three()...)
	_, err = restored(b[:len(b)-1])
	if !errors.As(err, &of) || of.n != 3 || number(err) != api.ErrCut {
		t.Errorf("cut off: %v", err)
	}
}
