package spec

import (
	"synodal/api"
	"synodal/wire"
)

// request is a client and a number of theirs.
type request struct{ client, seq int }

// claim says that a request stands at a place.
type claim struct {
	of    request
	place int
}

// known is what the events so far tell.
type known struct {
	called  map[request]api.Entry
	places  map[request]int // where each stands of which that is known
	holders map[int]request // the same by places
}

func nothing() *known {
	return &known{called: map[request]api.Entry{}, places: map[request]int{}, holders: map[int]request{}}
}

// take learns what an event tells; false, if it may not be. An answer claims one place; a read, when it may be told at all, is as many answers as it has entries.
func (k *known) take(e api.Event) bool {
	of := request{client: e.Client, seq: e.Seq}
	claims := []claim{{of: of, place: e.Index}}
	switch e.Kind {
	case api.TCall:
		return k.call(of, e.Entry)
	case api.TRead:
		if e.Index != len(e.Entries) || !k.mayBeRead(e.Entries) {
			return false
		}
		claims = claimsOf(e.Entries)
		fallthrough
	case api.TDone:
		return k.settle(claims)
	}
	return false
}

// call learns that a request was called with an entry, the same one each time.
func (k *known) call(of request, e api.Entry) bool {
	if !isRequest(e.Kind) || requestOf(e) != of || of.client < 1 || of.seq < 1 {
		return false
	}
	if was, again := k.called[of]; again {
		return wire.SameEntry(was, e)
	}
	k.called[of] = e
	return true
}

// mayBeRead says whether these were called, with the same entries, and the Seqs of each client rise.
func (k *known) mayBeRead(l []api.Entry) bool {
	greatest := map[int]int{}
	for _, e := range l {
		was, called := k.called[requestOf(e)]
		if !called || !wire.SameEntry(was, e) || e.Seq <= greatest[e.Client] {
			return false
		}
		greatest[e.Client] = e.Seq
	}
	return true
}

// settle learns where requests stand; false, if one of them can't.
func (k *known) settle(claims []claim) bool {
	for _, c := range claims {
		if !k.mayStand(c) {
			return false
		}
		k.places[c.of] = c.place
		k.holders[c.place] = c.of
	}
	return true
}

// mayStand says whether neither the place is known as another request's, nor the request at another place.
func (k *known) mayStand(c claim) bool {
	if _, called := k.called[c.of]; !called || c.place < 1 {
		return false
	}
	place, placed := k.places[c.of]
	holder, held := k.holders[c.place]
	return (!placed || place == c.place) && (!held || holder == c.of)
}

// claimsOf tells what a read says of its entries: they stand one behind the other.
func claimsOf(l []api.Entry) []claim {
	out := make([]claim, len(l))
	for i, e := range l {
		out[i] = claim{of: requestOf(e), place: i + 1}
	}
	return out
}

func requestOf(e api.Entry) request { return request{client: e.Client, seq: e.Seq} }

// isRequest says whether an entry of that kind is a client's: an engine's own are fillers.
func isRequest(kind int) bool {
	switch kind {
	case api.KData, api.KConf, api.KMigrate:
		return true
	}
	return false
}
