package paxos

import (
	"math"
	"slices"
	"strings"
	"testing"

	"synodal/api"
	"synodal/wire"
)

// wrong are entries that are refused whoever is asked, by what the chapter names first.
func wrong() map[api.Errno][]api.Entry {
	long := strings.Repeat("x", 17)
	of := func(kind int, data string, members []int, to int) api.Entry {
		return api.Entry{Kind: kind, Client: 1, Seq: 1, Data: data, Members: members, To: to}
	}
	return map[api.Errno][]api.Entry{
		api.ErrKind: {
			{}, of(api.KNone, "", nil, 0), of(api.KDone, "", list(1), 0), {Kind: 5, Data: long}, {Kind: -1}, {Kind: math.MinInt}, {Kind: math.MaxInt, To: 9},
		},
		api.ErrArg: {
			{Kind: api.KData, Seq: 1}, {Kind: api.KData, Client: 1, Data: long}, {Kind: api.KData, Client: 1, Seq: -1}, {Kind: api.KData, Client: math.MinInt, Seq: 1},
			{Kind: api.KConf, Seq: 1}, {Kind: api.KConf, Client: 1, Members: upTo(8)}, {Kind: api.KMigrate, Seq: 1, To: 1},
			of(api.KData, "", list(1), 0), of(api.KData, "", nil, 1), of(api.KData, "x", nil, -1),
			of(api.KConf, "", list(2, 1), 0), of(api.KConf, "", list(1, 1), 0), of(api.KConf, "", list(9), 0), of(api.KConf, "", list(-1), 0),
			of(api.KConf, "x", list(0, 1, 2), 0), of(api.KConf, "", list(0), 1), of(api.KConf, long, list(1), 7),
			of(api.KMigrate, "", nil, 0), of(api.KMigrate, "", nil, 3), of(api.KMigrate, "", nil, -1),
			of(api.KMigrate, "x", nil, 1), of(api.KMigrate, "", list(0), 2), of(api.KMigrate, long, nil, 2), of(api.KMigrate, "", upTo(8), 2),
		},
		api.ErrLong: {of(api.KData, long, nil, 0), of(api.KData, long, nil, 1), of(api.KData, long, upTo(8), 0)},
		api.ErrMany: {of(api.KConf, "", upTo(8), 0), of(api.KConf, "x", make([]int, 100), 1)},
		api.ErrNone: {of(api.KConf, "", nil, 0), of(api.KConf, "x", list(), 5)},
	}
}

// checkWrong says that a core refuses all that is wrong, whatever else would be told.
func checkWrong(t *testing.T, what string, g *group, id int) {
	t.Helper()
	for want, l := range wrong() {
		for _, e := range l {
			checkRefused(t, what, g, id, e, want)
		}
	}
}

// checkRefused says that a core refuses an entry by that.
func checkRefused(t *testing.T, what string, g *group, id int, e api.Entry, want api.Errno) {
	t.Helper()
	if _, errno := g.propose(id, e); errno != want {
		t.Errorf("P1402: %s: Propose(%+v): %v, not %v", what, e, errno, want)
	}
}

// P1402: an entry that may not be is refused ahead of all that a core might be: a Leader or not, with others that wait, full, sealed.
func TestWrongEntries(t *testing.T) {
	g := newGroup(t, 4, 0, 0, 1, 2)
	checkWrong(t, "nobody leads", g, 0)
	id := g.calm()
	checkWrong(t, "a Leader", g, id)
	checkWrong(t, "a Follower", g, (id+1)%3)
	checkWrong(t, "no member", g, 3)
	for range 56 {
		g.must(id, g.data())
	}
	checkWrong(t, "one at whom many wait", g, id)
	g.flow()
	checkWrong(t, "a full one", g, id)
	sealed := newGroup(t, 3, 0, 0, 1, 2)
	id = sealed.calm()
	sealed.must(id, sealed.migrate())
	checkWrong(t, "one that proposes a stop", sealed, id)
	sealed.flow()
	checkWrong(t, "a sealed one", sealed, id)
	checkWrong(t, "a sealed Follower", sealed, (id+1)%3)
}

// P1402: what may be is taken: data of no and of most bytes, clients and numbers up to the bound, either stop; each at the next index.
func TestRightEntries(t *testing.T) {
	for _, stop := range []api.Entry{
		{Kind: api.KMigrate, Client: 7, Seq: 3, To: api.Raft}, {Kind: api.KMigrate, Client: 7, Seq: 3, To: api.Chain},
		{Kind: api.KConf, Client: 1, Seq: 1, Members: list(8)}, {Kind: api.KConf, Client: 1, Seq: 1, Members: upTo(7)},
	} {
		g := newGroup(t, 1, 9, 0)
		g.leads(0)
		for at, e := range []api.Entry{
			{Kind: api.KData, Client: 1, Seq: 1},
			{Kind: api.KData, Client: 1<<40 - 1, Seq: 1<<40 - 1, Data: "sixteen bytes it"},
			{Kind: api.KData, Client: 1, Seq: 1, Data: "\x00\xff\n", Members: list()},
			stop,
		} {
			index := g.must(0, e)
			if got, _ := g.cores[0].Entry(10 + at); index != 10+at || g.cores[0].Commit() != index || !wire.SameEntry(got, e) {
				t.Errorf("Propose(%+v): %d, commit %d, there stands %+v", e, index, g.cores[0].Commit(), got)
			}
		}
	}
}

// P1402: who does not lead says so, whatever is proposed and may be: a Follower, a Candidate, one that is no member; ahead of ErrIs and ErrFull.
func TestNotLeader(t *testing.T) {
	g := newGroup(t, 4, 60, 0, 1, 2)
	g.lost = func(m api.Msg) bool { return true }
	stands(t, g.cores[1], 0)
	g.settle(1)
	for id := range 4 {
		for _, e := range []api.Entry{g.data(), g.change(0, 1, 2), g.change(3), g.migrate()} {
			checkRefused(t, "nobody leads", g, id, e, api.ErrLeader)
		}
	}
}

// P1402: its members are refused by ErrIs, ahead of ErrFull; others are not, be they all but one the same.
func TestSameMembers(t *testing.T) {
	for _, members := range [][]int{{0}, {0, 1}, {0, 2, 4}, upTo(7)} {
		g := newGroup(t, 7, 54, members...)
		id := g.calm()
		checkRefused(t, "the same members", g, id, g.change(members...), api.ErrIs)
		g.must(id, g.data())
		g.must(id, g.data())
		checkRefused(t, "the same members, full", g, id, g.change(members...), api.ErrIs)
		checkRefused(t, "full", g, id, g.change(8), api.ErrFull)
		other := newGroup(t, 7, 0, members...)
		other.must(other.calm(), other.change(append(slices.Clone(members[:len(members)-1]), 8)...))
	}
}

// P1402: entries are taken while there are less than 56 up to there, base and what waits counted.
func TestFull(t *testing.T) {
	for _, base := range list(0, 1, 30, 54, 55, 56, 57, 63, 64) {
		for _, members := range [][]int{{0}, {0, 1, 2}} {
			g := newGroup(t, 3, base, members...)
			g.leads(0)
			g.lost = func(m api.Msg) bool { return true }
			for last := base + 1; last <= 56; last++ {
				if index := g.must(0, g.data()); index != last {
					t.Fatalf("base %d: %d, not %d", base, index, last)
				}
			}
			for _, e := range []api.Entry{g.data(), g.migrate(), g.change(1)} {
				checkRefused(t, "full", g, 0, e, api.ErrFull)
			}
			g.lost = nil
			g.rounds(10)
			if g.cores[0].Commit() != max(base, 56) {
				t.Errorf("base %d: commit %d", base, g.cores[0].Commit())
			}
			for _, e := range []api.Entry{g.data(), g.migrate(), g.change(1)} {
				checkRefused(t, "full, all committed", g, 0, e, api.ErrFull)
			}
		}
	}
}

// P1402: of 55 that stand there some may be committed, some proposed, some wait.
func TestFullInParts(t *testing.T) {
	g := newGroup(t, 3, 20, 0, 1, 2)
	g.leads(0)
	for range 17 {
		g.must(0, g.data())
		g.flow()
	}
	g.apart(0)
	for range 18 {
		g.must(0, g.data())
	}
	if g.cores[0].Commit() != 37 {
		t.Fatalf("commit %d", g.cores[0].Commit())
	}
	if index := g.must(0, g.migrate()); index != 56 {
		t.Errorf("P1402: at 55: %d", index)
	}
}

// P1402: what is taken waits till what is ahead of it is committed: one alone is voted for at a time.
func TestOneByOne(t *testing.T) {
	g := newGroup(t, 3, 0, 0, 1, 2)
	g.leads(0)
	g.lost = func(m api.Msg) bool { return m.Kind == offer && len(m.Terms) > 0 && m.Commit >= 2 }
	var l []api.Entry
	for range 5 {
		l = append(l, g.data())
		g.must(0, l[len(l)-1])
		if len(g.net) != 2 {
			t.Errorf("P1402: %d are taken, %d messages", len(l), len(g.net))
		}
	}
	g.rounds(9)
	if g.cores[0].Commit() != 2 || len(g.cores[0].waits) != 3 {
		t.Fatalf("commit %d, %d wait", g.cores[0].Commit(), len(g.cores[0].waits))
	}
	if v, ok := g.cores[0].open(); !ok || v.Slot != 3 || !wire.SameEntry(v.Entry, l[2]) {
		t.Errorf("P1402: behind 2: %+v", v)
	}
	g.lost = nil
	g.rounds(5)
	for i, e := range l {
		if at, _ := g.cores[2].Entry(i + 1); !wire.SameEntry(at, e) {
			t.Errorf("P1402: at %d: %+v, not %+v", i+1, at, e)
		}
	}
}

// P1402, P1403: 40 that are taken at once are committed at all members within 40 quiet rounds, in order, of any number of members.
func TestManyWait(t *testing.T) {
	for count := 1; count <= 7; count++ {
		g := newGroup(t, 9, 0, upTo(count)...)
		id := g.calm()
		var l []api.Entry
		for range 40 {
			l = append(l, g.data())
			g.must(id, l[len(l)-1])
		}
		g.rounds(40)
		for _, member := range g.members {
			for i, e := range l {
				if at, ok := g.cores[member].Entry(i + 1); !ok || !wire.SameEntry(at, e) {
					t.Fatalf("P1403: %d members: core %d, at %d: %+v, not %+v", count, member, i+1, at, e)
				}
			}
		}
	}
}

// P1402: what one has not got committed when it leads no more it forgets: what waited never comes; what was voted for elsewhere may.
func TestForgotten(t *testing.T) {
	for _, heard := range []bool{false, true} {
		g := newGroup(t, 3, 0, 0, 1, 2)
		g.leads(0)
		g.lost = func(m api.Msg) bool { return !heard || m.To != 2 || m.From == 1 }
		first, second := g.data(), g.data()
		g.must(0, first)
		g.must(0, second)
		g.flow()
		g.apart(0)
		g.leads(1)
		g.must(1, g.data())
		g.flow()
		if id := g.calm(); id != 1 || g.cores[0].Role() != api.Follower {
			t.Fatalf("%d leads", id)
		}
		g.apart(1)
		g.load(2)
		g.leads(0)
		checkAbsent(t, g, second)
		if !heard {
			checkAbsent(t, g, first)
		} else if !wire.SameEntry(g.all[0], first) {
			t.Errorf("P1403: what was voted for is not found: %+v", g.all[0])
		}
		if index := g.must(0, g.data()); index != len(g.all)+1 {
			t.Errorf("P1402: %d, of what one that led ahead forgot", index)
		}
	}
}

// checkAbsent says that an entry is not committed.
func checkAbsent(t *testing.T, g *group, e api.Entry) {
	t.Helper()
	for i, at := range g.all {
		if wire.SameEntry(at, e) {
			t.Errorf("P1402: %+v, which was forgotten, is committed at %d", e, g.base+1+i)
		}
	}
}
