package spec

import (
	"slices"

	"synodal/api"
)

// same says whether two entries are the same one.
func same(a, b api.Entry) bool {
	return a.Kind == b.Kind && a.Client == b.Client && a.Seq == b.Seq && a.Data == b.Data && slices.Equal(a.Members, b.Members) && a.To == b.To
}

// stand is a request that stands at a place.
type stand struct{ client, seq, place int }

// standing tells by the chapter's words what these place: one for each answer, and for each entry of each read.
func standing(l []api.Event) []stand {
	var out []stand
	for _, e := range l {
		if e.Kind == api.TDone {
			out = append(out, stand{e.Client, e.Seq, e.Index})
		}
		if e.Kind == api.TRead {
			for i, x := range e.Entries {
				out = append(out, stand{x.Client, x.Seq, i + 1})
			}
		}
	}
	return out
}

// agree says whether nothing that is known speaks against a request at a place: none other is there, and it is at none other.
func agree(known []stand, x stand) bool {
	return !slices.ContainsFunc(known, func(y stand) bool {
		sameRequest := y.client == x.client && y.seq == x.seq
		return sameRequest != (y.place == x.place)
	})
}

// called tells the entries with which a request was called.
func called(l []api.Event, client, seq int) []api.Entry {
	var out []api.Entry
	for _, e := range l {
		if e.Kind == api.TCall && e.Client == client && e.Seq == seq {
			out = append(out, e.Entry)
		}
	}
	return out
}

// allowed tells by the chapter's words whether an event may be behind these, which all may be.
func allowed(ahead []api.Event, e api.Event) bool {
	switch e.Kind {
	case api.TCall:
		x := e.Entry
		other := func(y api.Entry) bool { return !same(x, y) }
		return (x.Kind == api.KData || x.Kind == api.KConf || x.Kind == api.KMigrate) &&
			x.Client == e.Client && x.Seq == e.Seq && x.Client > 0 && x.Seq > 0 &&
			!slices.ContainsFunc(called(ahead, e.Client, e.Seq), other)
	case api.TDone:
		return len(called(ahead, e.Client, e.Seq)) > 0 && e.Index > 0 &&
			agree(standing(ahead), stand{e.Client, e.Seq, e.Index})
	case api.TRead:
		return e.Index == len(e.Entries) && allowedEntries(ahead, e.Entries)
	}
	return false
}

// allowedEntries tells by the chapter's words whether these may be read behind all that.
func allowedEntries(ahead []api.Event, l []api.Entry) bool {
	known := standing(ahead)
	for i, x := range l {
		asked := called(ahead, x.Client, x.Seq)
		late := func(y api.Entry) bool { return y.Client == x.Client && y.Seq >= x.Seq }
		if len(asked) == 0 || !same(asked[0], x) || !agree(known, stand{x.Client, x.Seq, i + 1}) || slices.ContainsFunc(l[:i], late) {
			return false
		}
	}
	return true
}
