package hist

import (
	"slices"

	"synodal/api"
)

// barred tells why so many entries of these terms may not be put behind an index.
func (h *Hist) barred(index, term int, terms []int, count int) api.Errno {
	if len(terms) != count || !climbs(term, terms...) || index < h.base {
		return api.ErrArg
	}
	if index > h.Last() || index > h.base && h.Term(index) != term {
		return api.ErrNone
	}
	if !fits(index, count) {
		return api.ErrFull
	}
	return api.OK
}

// climbs says whether terms, behind one that stands ahead of them, are terms and do not fall.
func climbs(ahead int, terms ...int) bool {
	least := max(1, ahead)
	for _, term := range terms {
		if term < least {
			return false
		}
		least = term
	}
	return true
}

// fits says whether a log may have so many entries behind an index. It asks for the index alone first: with one near the end of int the sum would wrap round.
func fits(index, count int) bool {
	return index <= api.MaxLog && index+count <= api.MaxLog
}

// place lets an entry stand at an index, at most one behind the last. An entry of the same term stays, as it is the same one: a leader has one at an index.
func (h *Hist) place(i, term int, e api.Entry) {
	if h.Term(i) == term {
		return
	}
	h.rows = slices.Delete(h.rows, h.ahead(i), len(h.rows))
	h.add(term, e)
}
