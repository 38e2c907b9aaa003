package client

import (
	"math"
	"slices"
	"strconv"
	"testing"

	"synodal/api"
)

// numbers are such as no client and no request has, and the ends of those that they have.
var numbers = []int{math.MinInt, -1 << 40, -2, -1, 0, 1, 2, 3, 9, 1 << 40, math.MaxInt - 1, math.MaxInt}

// fillers are kinds of entries that are no requests, and kinds such as there are none of.
var fillers = []int{api.KNone, api.KDone, 5, 6, 7, 15, 255, 256, 1 << 32, 1<<32 + 1, math.MaxInt, -1, -2, -3, -255, math.MinInt, math.MinInt + 1}

func list(numbers ...int) []int { return numbers }

// data is a request that says in its bytes whose it is.
func data(client, seq int) api.Entry {
	return api.Entry{Kind: api.KData, Client: client, Seq: seq, Data: strconv.Itoa(client) + "." + strconv.Itoa(seq)}
}

// same says whether two entries are the same one.
func same(a, b api.Entry) bool {
	return a.Kind == b.Kind && a.Client == b.Client && a.Seq == b.Seq && a.Data == b.Data && slices.Equal(a.Members, b.Members) && a.To == b.To
}

// put is an entry that must be placed, and where.
func put(t *testing.T, x *Table, e api.Entry, place int) {
	t.Helper()
	if at, is := x.Put(e); at != place || !is {
		t.Fatalf("P1801: Put(%+v): %d, %v, not %d", e, at, is, place)
	}
}

// refuse is an entry that must not be placed; nothing is another one behind it.
func refuse(t *testing.T, x *Table, e api.Entry) {
	t.Helper()
	was := x.All()
	before, errno := x.Ask(e.Client, e.Seq)
	if at, is := x.Put(e); at != 0 || is {
		t.Fatalf("P1801, P4: Put(%+v): %d, %v", e, at, is)
	}
	if at, again := x.Ask(e.Client, e.Seq); at != before || again != errno {
		t.Fatalf("P1801: what was not placed changes Ask(%d, %d): %d, %v, not %d, %v", e.Client, e.Seq, at, again, before, errno)
	}
	checkAll(t, x, was...)
}

// ask holds an answer of Ask's against the one that it must be.
func ask(t *testing.T, x *Table, client, seq, place int, want api.Errno) {
	t.Helper()
	if at, e := x.Ask(client, seq); at != place || e != want {
		t.Errorf("P1801: Ask(%d, %d): %d, %v, not %d, %v", client, seq, at, e, place, want)
	}
}

// checkAll says that these were placed, and no others.
func checkAll(t *testing.T, x *Table, want ...api.Entry) {
	t.Helper()
	if got := x.All(); x.Len() != len(want) || !slices.EqualFunc(got, want, same) {
		t.Fatalf("P1801: Len: %d, All: %+v, not %+v", x.Len(), got, want)
	}
}

// P1801: of no entry at all.
func TestNone(t *testing.T) {
	x := New()
	checkAll(t, x)
	for _, client := range numbers {
		for _, seq := range numbers {
			if client < 1 || seq < 1 {
				ask(t, x, client, seq, 0, api.ErrArg)
			} else {
				ask(t, x, client, seq, 0, api.ErrNone)
			}
		}
	}
	checkAll(t, x)
}

// P1801: each kind: those of requests are placed, all others are not, whatever else they say.
func TestKinds(t *testing.T) {
	x := New()
	for i, kind := range list(api.KData, api.KConf, api.KMigrate) {
		put(t, x, api.Entry{Kind: kind, Client: 1, Seq: i + 1}, i+1)
	}
	for _, kind := range fillers {
		refuse(t, x, api.Entry{Kind: kind, Client: 1, Seq: 4})
		refuse(t, x, api.Entry{Kind: kind, Client: 2, Seq: 1, Data: "x", Members: list(1), To: api.Raft})
		ask(t, x, 1, 4, 0, api.ErrNone)
		ask(t, x, 2, 1, 0, api.ErrNone)
	}
	put(t, x, data(1, 4), 4)
	put(t, x, data(2, 1), 5)
}

// P1801: both numbers from 1 on, up to the greatest int; below it nothing is placed.
func TestNumbersOfPut(t *testing.T) {
	for _, kind := range list(api.KData, api.KConf, api.KMigrate) {
		for _, client := range numbers {
			for _, seq := range numbers {
				x := New()
				e := api.Entry{Kind: kind, Client: client, Seq: seq}
				if client < 1 || seq < 1 {
					refuse(t, x, e)
					ask(t, x, client, seq, 0, api.ErrArg)
					put(t, x, data(1, 1), 1)
				} else {
					put(t, x, e, 1)
					ask(t, x, client, seq, 1, api.OK)
					refuse(t, x, e)
				}
			}
		}
	}
}

// P1801: a Seq below the greatest one that was placed, at it, right above it and far above it.
func TestSeqs(t *testing.T) {
	x := New()
	put(t, x, data(1, 2), 1)
	for _, seq := range list(2, 1, 0, -1, math.MinInt) {
		refuse(t, x, data(1, seq))
	}
	put(t, x, data(1, 3), 2)
	put(t, x, data(1, 1000), 3)
	for seq := range 1001 {
		refuse(t, x, data(1, seq))
	}
	put(t, x, data(1, 1001), 4)
	put(t, x, data(1, 1<<40), 5)
	put(t, x, data(1, math.MaxInt-1), 6)
	refuse(t, x, data(1, 1<<40+1))
	put(t, x, data(1, math.MaxInt), 7)
	for _, seq := range numbers {
		refuse(t, x, data(1, seq))
	}
	checkAll(t, x, data(1, 2), data(1, 3), data(1, 1000), data(1, 1001), data(1, 1<<40), data(1, math.MaxInt-1), data(1, math.MaxInt))
}

// P1801: kinds do not matter to what may be placed next: all of a client's have Seqs in common.
func TestSeqsOfKinds(t *testing.T) {
	kinds := list(api.KData, api.KConf, api.KMigrate)
	for _, first := range kinds {
		for _, other := range kinds {
			x := New()
			put(t, x, api.Entry{Kind: first, Client: 3, Seq: 5}, 1)
			refuse(t, x, api.Entry{Kind: other, Client: 3, Seq: 5})
			refuse(t, x, api.Entry{Kind: other, Client: 3, Seq: 4})
			put(t, x, api.Entry{Kind: other, Client: 3, Seq: 6}, 2)
		}
	}
}

// P1801: what is not placed leaves what may be placed next as it was, be it as high as it may.
func TestRefusedCountsForNothing(t *testing.T) {
	x := New()
	put(t, x, data(1, 5), 1)
	for _, kind := range fillers {
		refuse(t, x, api.Entry{Kind: kind, Client: 1, Seq: math.MaxInt})
		refuse(t, x, api.Entry{Kind: kind, Client: 9, Seq: math.MaxInt})
	}
	refuse(t, x, data(1, 4))
	refuse(t, x, data(0, 6))
	refuse(t, x, data(-1, math.MaxInt))
	refuse(t, x, data(9, 0))
	ask(t, x, 1, 6, 0, api.ErrNone)
	ask(t, x, 9, 1, 0, api.ErrNone)
	ask(t, x, 0, 6, 0, api.ErrArg)
	put(t, x, data(1, 6), 2)
	put(t, x, data(9, 1), 3)
}

// P1801: each client has Seqs of its own; places go on over all of them.
func TestClients(t *testing.T) {
	x := New()
	clients := list(3, 1, math.MaxInt, 8, 9, 1<<40)
	var all []api.Entry
	for round := range 20 {
		for i, client := range clients {
			e := data(client, (i+1)*round+7-i)
			all = append(all, e)
			put(t, x, e, len(all))
			refuse(t, x, e)
		}
	}
	checkAll(t, x, all...)
	for i, e := range all {
		ask(t, x, e.Client, e.Seq, i+1, api.OK)
	}
	ask(t, x, 2, 1, 0, api.ErrNone)
	ask(t, x, math.MaxInt-1, 7, 0, api.ErrNone)
}

// P1801: Ask of the only request that was placed, and of those about it.
func TestAskOfOne(t *testing.T) {
	x := New()
	put(t, x, data(4, 7), 1)
	for seq := range 20 {
		switch {
		case seq == 0:
			ask(t, x, 4, seq, 0, api.ErrArg)
		case seq < 7:
			ask(t, x, 4, seq, 0, api.ErrStale)
		case seq == 7:
			ask(t, x, 4, seq, 1, api.OK)
		default:
			ask(t, x, 4, seq, 0, api.ErrNone)
		}
		if seq > 0 {
			ask(t, x, 3, seq, 0, api.ErrNone)
			ask(t, x, 5, seq, 0, api.ErrNone)
		}
	}
	ask(t, x, 4, math.MaxInt, 0, api.ErrNone)
	checkAll(t, x, data(4, 7))
}

// P1801: Ask of the first, a middle and the last request of a client's; of what was passed over, and what is greater than all.
func TestAskOfMany(t *testing.T) {
	x := New()
	for i := range 50 {
		put(t, x, data(1, 3*i+2), 2*i+1)
		put(t, x, data(2, i+1), 2*i+2)
	}
	for i := range 50 {
		ask(t, x, 1, 3*i+1, 0, api.ErrStale)
		ask(t, x, 1, 3*i+2, 2*i+1, api.OK)
		ask(t, x, 2, i+1, 2*i+2, api.OK)
		if i < 49 {
			ask(t, x, 1, 3*i+3, 0, api.ErrStale)
		}
	}
	for _, seq := range list(150, 151, 1<<40, math.MaxInt) {
		ask(t, x, 1, seq, 0, api.ErrNone)
		ask(t, x, 2, seq, 0, api.ErrNone)
		ask(t, x, 3, seq, 0, api.ErrNone)
	}
	ask(t, x, 1, 1, 0, api.ErrStale)
	for _, n := range list(0, -1, math.MinInt) {
		ask(t, x, 1, n, 0, api.ErrArg)
		ask(t, x, n, 1, 0, api.ErrArg)
		ask(t, x, n, n, 0, api.ErrArg)
		ask(t, x, math.MaxInt, n, 0, api.ErrArg)
	}
}

// P1801: one that was passed over stays so, and is never placed any more.
func TestPassedOver(t *testing.T) {
	x := New()
	put(t, x, data(1, 1), 1)
	ask(t, x, 1, 2, 0, api.ErrNone)
	put(t, x, data(1, 3), 2)
	ask(t, x, 1, 2, 0, api.ErrStale)
	refuse(t, x, data(1, 2))
	put(t, x, data(1, 4), 3)
	ask(t, x, 1, 2, 0, api.ErrStale)
	ask(t, x, 1, 1, 1, api.OK)
}

// P1801: All tells all that the entries said, of each kind, as they were put.
func TestAllOfEachKind(t *testing.T) {
	x := New()
	all := []api.Entry{
		{Kind: api.KData, Client: 1, Seq: 1, Data: "a\x00ü\xff"},
		{Kind: api.KData, Client: 1, Seq: 2},
		{Kind: api.KConf, Client: 2, Seq: 1, Members: list(0, 4, 8)},
		{Kind: api.KMigrate, Client: 2, Seq: 2, To: api.Chain},
		{Kind: api.KMigrate, Client: 1, Seq: 3, To: api.Raft},
		{Kind: api.KConf, Client: 3, Seq: 9, Data: "more", Members: list(9, 9, -1, math.MaxInt), To: math.MinInt},
		{Kind: api.KData, Client: 4, Seq: 9, Data: string(make([]byte, 1000)), Members: make([]int, 1000), To: 3},
	}
	for i, e := range all {
		put(t, x, e, i+1)
		checkAll(t, x, all[:i+1]...)
	}
	for _, e := range all {
		refuse(t, x, e)
	}
	if e := x.All()[1]; len(e.Members) != 0 {
		t.Errorf("P1801: members where there were none: %v", e.Members)
	}
}

// P1801: the same row once more places nothing; another Data of the same request neither.
func TestOnceMore(t *testing.T) {
	x := New()
	var all []api.Entry
	for i := range 100 {
		all = append(all, data(1+i%7, 1+i/3))
	}
	var placed []api.Entry
	for _, e := range all {
		if _, is := x.Put(e); is {
			placed = append(placed, e)
		}
	}
	if len(placed) == 0 {
		t.Fatal("P1801: nothing was placed")
	}
	for _, e := range all {
		refuse(t, x, e)
		e.Data = "another one"
		refuse(t, x, e)
	}
	checkAll(t, x, placed...)
}

// P7: of two tables neither knows what the other one was given.
func TestTwoTables(t *testing.T) {
	x, y := New(), New()
	if x == y {
		t.Fatal("P7: New tells one table twice")
	}
	put(t, x, data(1, 5), 1)
	put(t, x, data(2, 1), 2)
	checkAll(t, y)
	ask(t, y, 1, 5, 0, api.ErrNone)
	ask(t, y, 1, 4, 0, api.ErrNone)
	put(t, y, data(1, 3), 1)
	put(t, y, data(1, 5), 2)
	checkAll(t, x, data(1, 5), data(2, 1))
	checkAll(t, y, data(1, 3), data(1, 5))
	ask(t, x, 1, 3, 0, api.ErrStale)
	ask(t, x, 1, 5, 1, api.OK)
	ask(t, y, 1, 5, 2, api.OK)
	ask(t, y, 2, 1, 0, api.ErrNone)
}

// The chapter's example.
func TestExample(t *testing.T) {
	x := New()
	put(t, x, data(1, 2), 1)
	refuse(t, x, data(1, 1))
	ask(t, x, 1, 1, 0, api.ErrStale)
}
