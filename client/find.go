package client

import (
	"cmp"
	"slices"

	"synodal/api"
)

// firstNumber is the least one of a client, and of a request of its.
const firstNumber = 1

// find tells the place of a request, or why it has none.
func (t *Table) find(client, seq int) (int, error) {
	if client < firstNumber || seq < firstNumber {
		return 0, &refusal{client: client, seq: seq, inner: api.ErrArg}
	}
	own := t.places[client]
	i, found := slices.BinarySearchFunc(own, seq, t.compare)
	switch {
	case found:
		return own[i], nil
	case i < len(own):
		return 0, &refusal{client: client, seq: seq, inner: api.ErrStale}
	}
	return 0, &refusal{client: client, seq: seq, inner: api.ErrNone}
}

// compare holds the Seq of the request at a place against another one.
func (t *Table) compare(place, seq int) int { return cmp.Compare(t.log[place-1].Seq, seq) }

// isRequest says whether an entry of that kind is a client's: an engine's own are fillers.
func isRequest(kind int) bool {
	switch kind {
	case api.KData, api.KConf, api.KMigrate:
		return true
	}
	return false
}

// twin is the same entry in memory of its own.
func twin(e api.Entry) api.Entry {
	e.Members = append([]int(nil), e.Members...)
	return e
}
