package client

import (
	"slices"
	"testing"

	"synodal/api"
)

// spare stands in the spare room of all that is handed in.
const spare = 4711

// roomy is a list of numbers with something in its spare room.
func roomy(numbers ...int) []int {
	return append(slices.Clone(numbers), spare, spare, spare)[:len(numbers)]
}

// whole is a list with its spare room.
func whole[E any](l []E) []E { return l[:cap(l)] }

// scrawl writes over a list of numbers and its spare room.
func scrawl(l []int) {
	for i := range whole(l) {
		whole(l)[i] = -33
	}
}

// scrawlEntries writes over entries, their members, and the spare room of all of these.
func scrawlEntries(l []api.Entry) {
	for i, e := range whole(l) {
		scrawl(e.Members)
		whole(l)[i] = api.Entry{Kind: -33, Client: -33, Seq: -33, Data: "scrawl", Members: list(-33), To: -33}
	}
}

// four are entries with members, and without.
func four() []api.Entry {
	return []api.Entry{
		{Kind: api.KConf, Client: 1, Seq: 1, Members: list(0, 1, 2)},
		data(1, 2),
		{Kind: api.KConf, Client: 2, Seq: 1, Members: list(4)},
		{Kind: api.KConf, Client: 2, Seq: 9, Members: list(1, 2, 3, 5, 8)},
	}
}

// tableOf is one in which these stand.
func tableOf(t *testing.T, l []api.Entry) *Table {
	t.Helper()
	x := New()
	for i, e := range l {
		put(t, x, e, i+1)
	}
	return x
}

// P2: the members that Put is handed, with their spare room, are neither changed nor kept, be the entry placed or not.
func TestHandedInIsNotKept(t *testing.T) {
	x := New()
	placed, late, filler := roomy(0, 1, 2), roomy(3, 4), roomy(5)
	none := roomy()
	put(t, x, api.Entry{Kind: api.KConf, Client: 1, Seq: 2, Members: placed}, 1)
	put(t, x, api.Entry{Kind: api.KConf, Client: 1, Seq: 3, Members: none}, 2)
	refuse(t, x, api.Entry{Kind: api.KConf, Client: 1, Seq: 1, Members: late})
	refuse(t, x, api.Entry{Kind: api.KDone, Client: 1, Seq: 4, Members: filler})
	scrawlEntries(x.All())
	for _, c := range []struct{ members, want []int }{
		{placed, list(0, 1, 2, spare, spare, spare)}, {none, list(spare, spare, spare)},
		{late, list(3, 4, spare, spare, spare)}, {filler, list(5, spare, spare, spare)},
	} {
		if !slices.Equal(whole(c.members)[:len(c.want)], c.want) {
			t.Errorf("P2: what was handed in is now %v, not %v", whole(c.members), c.want)
		}
		scrawl(c.members)
	}
	checkAll(t, x, api.Entry{Kind: api.KConf, Client: 1, Seq: 2, Members: list(0, 1, 2)}, api.Entry{Kind: api.KConf, Client: 1, Seq: 3})
}

// P2: entries may be handed in whose members share memory; those that are placed do not.
func TestHandedInShared(t *testing.T) {
	ids := list(0, 1, 2, 3, 4)
	x := New()
	for i := range 4 {
		put(t, x, api.Entry{Kind: api.KConf, Client: 1, Seq: i + 1, Members: ids[:i+1]}, i+1)
	}
	all := x.All()
	scrawl(all[0].Members)
	scrawl(all[2].Members)
	if !slices.Equal(all[1].Members, list(0, 1)) || !slices.Equal(all[3].Members, list(0, 1, 2, 3)) || !slices.Equal(ids, list(0, 1, 2, 3, 4)) {
		t.Errorf("P2: lists share memory: %+v, %v", all, ids)
	}
	scrawl(ids)
	for i, e := range x.All() {
		if !slices.Equal(e.Members, list(0, 1, 2, 3, 4)[:i+1]) {
			t.Errorf("P2: %+v", e)
		}
	}
}

// P2: what All tells is new memory, its spare room too: whoever writes over it changes neither the table nor what was told ahead.
func TestToldIsOwn(t *testing.T) {
	x := tableOf(t, four())
	ahead := x.All()
	for range 3 {
		scrawlEntries(x.All())
		checkAll(t, x, four()...)
		if !slices.EqualFunc(ahead, four(), same) {
			t.Fatalf("P2: All shares memory with what it told ahead: %+v", ahead)
		}
	}
	put(t, x, data(2, 10), 5)
	checkAll(t, x, append(four(), data(2, 10))...)
}

// P2: no two lists of one answer share memory, their spare room too.
func TestListsOfOneAnswer(t *testing.T) {
	all := tableOf(t, four()).All()
	for i, e := range all {
		if !same(e, four()[i]) {
			t.Errorf("P2: %+v: its list is a part of another", e)
		}
		scrawl(e.Members)
	}
}

// P2: what was told stays, whatever is placed behind it.
func TestToldStays(t *testing.T) {
	x := tableOf(t, four())
	all := x.All()
	for seq := range 100 {
		put(t, x, data(3, seq+1), seq+5)
	}
	if !slices.EqualFunc(all, four(), same) {
		t.Errorf("P2: told was %+v", all)
	}
}
