package client

import (
	"errors"
	"testing"

	"synodal/api"
)

// An error is of its number however it is wrapped; it says of which request it is.
func TestNumber(t *testing.T) {
	for _, e := range []api.Errno{api.ErrArg, api.ErrStale, api.ErrNone} {
		of := &refusal{client: 3, seq: 7, inner: e}
		if number(e) != e || number(of) != e || number(&refusal{inner: of}) != e || !errors.Is(of, e) {
			t.Errorf("number of %v: %v", e, number(of))
		}
		if want := "request 7 of client 3: " + e.Error(); of.Error() != want {
			t.Errorf("%q, not %q", of.Error(), want)
		}
	}
	if number(nil) != api.OK {
		t.Errorf("number of nothing: %v", number(nil))
	}
}

// Why a request has no place is told around which one it is.
func TestRefusal(t *testing.T) {
	x := New()
	put(t, x, data(2, 5), 1)
	for _, c := range []struct {
		client, seq int
		want        api.Errno
	}{{0, 5, api.ErrArg}, {2, 0, api.ErrArg}, {2, 4, api.ErrStale}, {2, 6, api.ErrNone}, {1, 5, api.ErrNone}} {
		_, err := x.find(c.client, c.seq)
		var why *refusal
		if !errors.As(err, &why) || why.client != c.client || why.seq != c.seq || !errors.Is(err, c.want) {
			t.Errorf("request %d of client %d: %v, not %v", c.seq, c.client, err, c.want)
		}
	}
	if place, err := x.find(2, 5); place != 1 || err != nil {
		t.Errorf("request 5 of client 2: %d, %v", place, err)
	}
}
