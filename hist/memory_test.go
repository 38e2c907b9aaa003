package hist

import (
	"slices"
	"testing"

	"synodal/api"
	"synodal/conf"
)

// spare stands in the spare room of all that is handed in.
const spare = 4711

// roomy is a list of numbers with something in its spare room.
func roomy(numbers ...int) []int {
	return append(slices.Clone(numbers), spare, spare, spare)[:len(numbers)]
}

// roomyEntries are entries whose lists, and that of them, have something in their spare room.
func roomyEntries() []api.Entry {
	l := []api.Entry{
		{Kind: api.KConf, Client: 1, Seq: 1, Members: roomy(1, 2)},
		{Kind: api.KDone, Members: roomy(1, 2)},
		{Kind: api.KConf, Client: 1, Seq: 2, Members: roomy(3)},
		{Kind: api.KData, Client: 2, Seq: 1, Data: "x", Members: roomy()},
	}
	return append(l, api.Entry{Data: "spare", Members: roomy(7)}, api.Entry{Data: "spare"})[:len(l)]
}

// whole is a list with its spare room.
func whole[E any](l []E) []E { return l[:cap(l)] }

// scrawl writes over lists of numbers and their spare room.
func scrawl(lists ...[]int) {
	for _, l := range lists {
		for i := range whole(l) {
			whole(l)[i] = -33
		}
	}
}

// scrawlEntries writes over entries, their lists, and the spare room of all of these.
func scrawlEntries(l []api.Entry) {
	for i := range whole(l) {
		scrawl(whole(l)[i].Members)
		whole(l)[i] = api.Entry{Kind: -33, Data: "scrawl", Members: list(-33)}
	}
}

// copied is entries and their spare room, and that of their lists, in other memory.
func copied(l []api.Entry) []api.Entry {
	out := slices.Clone(whole(l))
	for i := range out {
		out[i].Members = slices.Clone(whole(out[i].Members))
	}
	return out
}

// checkStays holds what is handed in, with its spare room, against what it is behind a use.
func checkStays(t *testing.T, what string, terms []int, l []api.Entry, use func()) {
	t.Helper()
	wereTerms, were := slices.Clone(whole(terms)), copied(l)
	use()
	if !slices.Equal(whole(terms), wereTerms) {
		t.Errorf("%s: the terms with their spare room are %v, not %v", what, whole(terms), wereTerms)
	}
	if now := copied(l); !slices.EqualFunc(now, were, same) {
		t.Errorf("%s: the entries with their spare room are %+v, not %+v", what, now, were)
	}
}

// checkKept holds a log behind 2 against roomyEntries.
func checkKept(t *testing.T, what string, h *Hist, terms ...int) {
	t.Helper()
	m := newModel(2)
	for i, e := range roomyEntries() {
		m.last++
		m.at[m.last] = slot{terms[i], e}
	}
	m.check(t, what, h)
	if got := h.Config(plain(0, 1)); !conf.Same(got, joint(list(1, 2), list(3))) {
		t.Errorf("%s: Config: %v", what, got)
	}
}

// made are two logs behind 2 of roomyEntries, by Append and by Put, and what was handed in for each.
func made(t *testing.T) (logs []*Hist, terms [][]int, entries [][]api.Entry) {
	t.Helper()
	a, b := New(2), New(2)
	la, lb, tb := roomyEntries(), roomyEntries(), roomy(5, 5, 5, 5)
	checkAppend(t, a, 5, la, 6, api.OK)
	checkPut(t, b, 2, 0, tb, lb, 6, api.OK)
	return []*Hist{a, b}, [][]int{nil, tb}, [][]api.Entry{la, lb}
}

// P2: neither Append nor Put changes what is handed in, its spare room too, whether it is taken or refused, and whatever is called then.
func TestHandedInStays(t *testing.T) {
	l, terms := roomyEntries(), roomy(5, 5, 5, 6)
	c := api.Config{Old: roomy(), New: roomy(0, 1)}
	were := slices.Clone(whole(c.New))
	checkStays(t, "all calls", terms, l, func() {
		h := New(2)
		checkAppend(t, h, 0, l, 0, api.ErrArg)
		checkAppend(t, New(61), 1, l, 0, api.ErrFull)
		checkAppend(t, h, 5, l, 6, api.OK)
		checkPut(t, h, 2, 0, terms[:3], l, 0, api.ErrArg)
		checkPut(t, h, 9, 0, terms, l, 0, api.ErrNone)
		checkPut(t, New(61), 61, 0, terms, l, 0, api.ErrFull)
		checkPut(t, h, 2, 0, terms, l, 6, api.OK)
		checkPut(t, h, 4, 5, terms, l, 8, api.OK)
		checkPut(t, h, 2, 0, terms[3:], l[3:], 3, api.OK)
		checkPut(t, h, 2, 0, terms[:1], l[:1], 3, api.OK)
		checkAppend(t, h, 7, l[1:2], 4, api.OK)
		h.Config(c)
		gotTerms, got := h.From(0)
		scrawl(gotTerms)
		scrawlEntries(got)
	})
	if !slices.Equal(whole(c.New), were) || !slices.Equal(whole(c.Old), list(spare, spare, spare)) {
		t.Errorf("Config made %v, %v of its lists", whole(c.Old), whole(c.New))
	}
}

// P2: a log keeps no memory of what was handed in.
func TestHandedInIsNotKept(t *testing.T) {
	logs, terms, entries := made(t)
	for i, h := range logs {
		scrawl(terms[i])
		scrawlEntries(entries[i])
		checkKept(t, "scrawled over", h, 5, 5, 5, 5)
	}
}

// P2: entries may be handed in that share their lists, with one another and with the terms; a log's do not.
func TestHandedInShared(t *testing.T) {
	one := list(4, 5, 6, 7)
	l := []api.Entry{{Members: one[:2]}, {Members: one[:3]}, {Members: one[1:2]}}
	h := New(0)
	checkAppend(t, h, 1, l, 3, api.OK)
	checkPut(t, h, 3, 1, one[:3], l, 6, api.OK)
	if !slices.Equal(one, list(4, 5, 6, 7)) {
		t.Errorf("what was handed in: %v", one)
	}
	scrawl(one)
	wants := [][]int{{4, 5}, {4, 5, 6}, {5}, {4, 5}, {4, 5, 6}, {5}}
	terms, got := h.From(0)
	if !slices.Equal(terms, list(1, 1, 1, 4, 5, 6)) {
		t.Errorf("the terms: %v", terms)
	}
	for i := range got {
		if !slices.Equal(got[i].Members, wants[i]) {
			t.Errorf("entry %d: %v, or it shares memory with another", i, got[i].Members)
		}
		scrawl(got[i].Members)
	}
}

// P2: what a log tells is new memory, its spare room too: whoever writes over it changes neither the log nor what it tells then.
func TestToldIsOwn(t *testing.T) {
	logs, _, _ := made(t)
	for _, h := range logs {
		for i := range 9 {
			e, _ := h.Entry(i)
			scrawl(e.Members)
			again, _ := h.Entry(i)
			terms, l := h.From(i)
			scrawl(terms)
			scrawlEntries(l)
			checkKept(t, "written over", h, 5, 5, 5, 5)
			if slices.Contains(again.Members, -33) {
				t.Errorf("Entry(%d) twice is the same memory", i)
			}
		}
	}
}

// P2: what was told stays, whatever becomes of the log.
func TestToldStays(t *testing.T) {
	logs, _, _ := made(t)
	for _, h := range logs {
		terms, l := h.From(3)
		first, _ := h.Entry(3)
		checkPut(t, h, 2, 0, list(6, 7), data("xy"), 4, api.OK)
		checkAppend(t, h, 9, data("zzzzz"), 9, api.OK)
		if !slices.Equal(terms, list(5, 5, 5, 5)) || !slices.EqualFunc(l, roomyEntries(), same) || !same(first, roomyEntries()[0]) {
			t.Errorf("what was told is now %v, %+v, %+v", terms, l, first)
		}
	}
}

// P2: no two lists of one answer of From share memory, their spare room too.
func TestListsOfFrom(t *testing.T) {
	logs, _, _ := made(t)
	for _, h := range logs {
		terms, l := h.From(0)
		scrawl(terms)
		for i := range l {
			if slices.Contains(l[i].Members, -33) {
				t.Errorf("entry %d: its list is a part of another", i)
			}
			scrawl(l[i].Members)
		}
	}
}

// P2: Config keeps and tells no memory of its argument or of the log, and its lists are two.
func TestConfigIsOwn(t *testing.T) {
	for count, want := range []api.Config{plain(0, 1), joint(list(0, 1), list(1, 2)), plain(1, 2), joint(list(1, 2), list(3))} {
		h := New(0)
		checkAppend(t, h, 1, roomyEntries()[:count], count, api.OK)
		given := api.Config{New: roomy(0, 1)}
		got := h.Config(given)
		scrawl(given.Old, given.New)
		if !conf.Same(got, want) {
			t.Errorf("%d entries: %v, not %v", count, got, want)
		}
		scrawl(got.Old)
		if !slices.Equal(got.New, want.New) {
			t.Errorf("%d entries: the lists share memory", count)
		}
		scrawl(got.New)
		if again := h.Config(plain(0, 1)); !conf.Same(again, want) {
			t.Errorf("%d entries: %v then, not %v", count, again, want)
		}
		given = api.Config{New: roomy(0, 1)}
		got = h.Config(given)
		scrawl(got.Old, got.New)
		if !slices.Equal(whole(given.New)[:5], list(0, 1, spare, spare, spare)) {
			t.Errorf("%d entries: what was handed in is %v", count, whole(given.New))
		}
	}
}

// P2: two logs of the same entries share nothing, also where the one took what the other told.
func TestLogsShareNothing(t *testing.T) {
	logs, _, _ := made(t)
	a, b := logs[0], New(2)
	terms, l := a.From(0)
	checkPut(t, b, 2, 0, terms, l, 6, api.OK)
	checkPut(t, a, 3, 5, list(6), data("x"), 4, api.OK)
	checkAppend(t, a, 8, data("yz"), 6, api.OK)
	scrawl(terms)
	scrawlEntries(l)
	checkKept(t, "the other", b, 5, 5, 5, 5)
}
