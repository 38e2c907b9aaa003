package raft

import (
	"math"
	"strings"
	"testing"

	"synodal/api"
)

// wrong are entries that are refused whoever is asked, by what the chapter names first.
func wrong() map[api.Errno][]api.Entry {
	long := strings.Repeat("x", 17)
	return map[api.Errno][]api.Entry{
		api.ErrKind: {
			{}, {Kind: api.KNone, Client: 1, Seq: 1}, {Kind: api.KDone, Client: 1, Seq: 1, Members: list(1)}, {Kind: -1}, {Kind: 5, Data: long},
			{Kind: math.MinInt}, {Kind: math.MaxInt, To: 9},
		},
		api.ErrArg: {
			{Kind: api.KData, Seq: 1}, {Kind: api.KData, Client: 1}, {Kind: api.KData, Client: -1, Seq: 1}, {Kind: api.KData, Client: 1, Seq: math.MinInt},
			{Kind: api.KData, Client: 1, Data: long}, {Kind: api.KConf, Seq: 1}, {Kind: api.KConf, Client: 1, Members: upTo(8)}, {Kind: api.KMigrate, Seq: 1, To: 1},
			{Kind: api.KData, Client: 1, Seq: 1, Members: list(1)}, {Kind: api.KData, Client: 1, Seq: 1, To: 1}, {Kind: api.KData, Client: 1, Seq: 1, To: -1},
			{Kind: api.KConf, Client: 1, Seq: 1, Members: list(2, 1)}, {Kind: api.KConf, Client: 1, Seq: 1, Members: list(1, 1)},
			{Kind: api.KConf, Client: 1, Seq: 1, Members: list(9)}, {Kind: api.KConf, Client: 1, Seq: 1, Members: list(-1)},
			{Kind: api.KConf, Client: 1, Seq: 1, Members: list(0), Data: "x"}, {Kind: api.KConf, Client: 1, Seq: 1, Members: list(0), To: 1},
			{Kind: api.KConf, Client: 1, Seq: 1, Members: list(1), Data: long, To: 7},
			{Kind: api.KMigrate, Client: 1, Seq: 1}, {Kind: api.KMigrate, Client: 1, Seq: 1, To: 3}, {Kind: api.KMigrate, Client: 1, Seq: 1, To: -1},
			{Kind: api.KMigrate, Client: 1, Seq: 1, To: 1, Data: "x"}, {Kind: api.KMigrate, Client: 1, Seq: 1, To: 2, Members: list(0)},
			{Kind: api.KMigrate, Client: 1, Seq: 1, To: 2, Data: long}, {Kind: api.KMigrate, Client: 1, Seq: 1, To: 2, Members: upTo(8)},
		},
		api.ErrLong: {
			{Kind: api.KData, Client: 1, Seq: 1, Data: long}, {Kind: api.KData, Client: 1, Seq: 1, Data: long, To: 1},
			{Kind: api.KData, Client: 1, Seq: 1, Data: long, Members: upTo(8)},
		},
		api.ErrMany: {
			{Kind: api.KConf, Client: 1, Seq: 1, Members: upTo(8)}, {Kind: api.KConf, Client: 1, Seq: 1, Members: make([]int, 100), To: 1, Data: "x"},
		},
		api.ErrNone: {
			{Kind: api.KConf, Client: 1, Seq: 1}, {Kind: api.KConf, Client: 1, Seq: 1, Members: list(), Data: "x", To: 5},
		},
	}
}

// checkWrong says that a core refuses all that is wrong, whatever else would be told.
func checkWrong(t *testing.T, what string, g *group, id int) {
	t.Helper()
	for want, l := range wrong() {
		for _, e := range l {
			if _, errno := g.propose(id, e); errno != want {
				t.Errorf("P1203: %s: Propose(%+v): %v, not %v", what, e, errno, want)
			}
		}
	}
}

// checkRefused says that a core refuses an entry by that.
func checkRefused(t *testing.T, what string, g *group, id int, e api.Entry, want api.Errno) {
	t.Helper()
	if _, errno := g.propose(id, e); errno != want {
		t.Errorf("P1203: %s: Propose(%+v): %v, not %v", what, e, errno, want)
	}
}

// P1203: an entry that may not be is refused ahead of all that a core might be: a Leader or not, busy, full, sealed.
func TestWrongEntries(t *testing.T) {
	g := newGroup(t, 3, 0, 0, 1, 2)
	checkWrong(t, "nobody leads", g, 0)
	id := g.calm()
	checkWrong(t, "a Leader", g, id)
	checkWrong(t, "a Follower", g, (id+1)%3)
	g.must(id, g.change(0, 1))
	checkWrong(t, "a busy one", g, id)
	g.calm()
	for g.cores[g.leader()].Commit() < 56 {
		g.must(g.leader(), g.data())
		g.flow()
	}
	checkWrong(t, "a full one", g, g.leader())
	sealed := newGroup(t, 3, 0, 0, 1, 2)
	id = sealed.calm()
	sealed.must(id, sealed.migrate())
	checkWrong(t, "one that is about to be sealed", sealed, id)
	sealed.flow()
	checkWrong(t, "a sealed one", sealed, id)
	checkWrong(t, "a sealed Follower", sealed, (id+1)%3)
}

// P1203: what may be is taken: data of no and of most bytes, both engines, clients and numbers up to the bound; each at the next index.
func TestRightEntries(t *testing.T) {
	g := newGroup(t, 1, 9, 0)
	g.leads(0)
	want := lastOf(g.cores[0], 9)
	for _, e := range []api.Entry{
		{Kind: api.KData, Client: 1, Seq: 1},
		{Kind: api.KData, Client: 1<<40 - 1, Seq: 1<<40 - 1, Data: "sixteen bytes it"},
		{Kind: api.KData, Client: 1, Seq: 1, Data: "\x00\xff\n", Members: list()},
		{Kind: api.KMigrate, Client: 7, Seq: 3, To: api.Raft},
	} {
		want++
		if index := g.must(0, e); index != want || g.cores[0].Commit() != want {
			t.Errorf("Propose(%+v): %d, commit %d, not %d", e, index, g.cores[0].Commit(), want)
		}
	}
	other := newGroup(t, 1, 0, 0)
	other.leads(0)
	other.must(0, api.Entry{Kind: api.KMigrate, Client: 1, Seq: 1, To: api.Chain})
}

// P1203: who does not lead says so, whatever is proposed and may be: a Follower, a Candidate, one that is no member.
func TestNotLeader(t *testing.T) {
	g := newGroup(t, 4, 60, 0, 1, 2)
	g.lost = func(m api.Msg) bool { return true }
	stands(t, g.cores[1], 0)
	g.settle(1)
	for id := range 4 {
		checkRefused(t, "nobody leads", g, id, g.data(), api.ErrLeader)
		checkRefused(t, "nobody leads", g, id, g.change(0, 1, 2), api.ErrLeader)
		checkRefused(t, "nobody leads", g, id, g.change(3), api.ErrLeader)
		checkRefused(t, "nobody leads", g, id, g.migrate(), api.ErrLeader)
	}
}

// P1203: what is busy takes neither other members nor the other engine, but data: while the members are joint, and while what ends that is not committed.
func TestBusy(t *testing.T) {
	g := newGroup(t, 5, 0, 0, 1, 2)
	id := g.calm()
	for _, step := range []func(){
		func() { g.must(id, g.change(id, 3, 4)) }, // not committed
		func() { g.only(0, 1, 2); g.rounds(8) },   // committed by the elder ones alone: not committed
		func() { // committed, what ends it is not
			g.lost = func(m api.Msg) bool {
				return m.Kind == entries && len(m.Entries) > 0 && m.Entries[len(m.Entries)-1].Kind == api.KDone
			}
			g.rounds(8)
		},
	} {
		step()
		for _, l := range [][]int{{0, 1, 2}, {id, 3, 4}, {0}} {
			checkRefused(t, "busy", g, id, g.change(l...), api.ErrBusy)
		}
		checkRefused(t, "busy", g, id, g.migrate(), api.ErrBusy)
	}
	last, _ := g.cores[id].Entry(lastOf(g.cores[id], 0))
	if last.Kind != api.KDone || g.cores[id].Role() != api.Leader {
		t.Fatalf("the last one is %+v", last)
	}
	index := g.must(id, g.data())
	if g.cores[id].Commit() >= index {
		t.Errorf("commit %d", g.cores[id].Commit())
	}
	g.lost = nil
	g.rounds(8)
	if g.cores[id].Commit() != index {
		t.Errorf("commit %d, not %d", g.cores[id].Commit(), index)
	}
	checkRefused(t, "the same members", g, id, g.change(id, 3, 4), api.ErrIs)
	g.must(id, g.change(0, 1, 2))
}

// P1203: the members that count are refused by ErrIs, to whomever a change came; ahead of ErrFull.
func TestSameMembers(t *testing.T) {
	g := newGroup(t, 4, 0, 0, 1, 2)
	for _, l := range [][]int{{1, 2, 3}, {0, 1, 2, 3}, {2}, {0, 1, 2}} {
		id := g.calm()
		checkRefused(t, "the same members", g, id, g.change(g.cores[id].Config().New...), api.ErrIs)
		g.must(id, g.change(l...))
	}
	id := g.calm()
	for lastOf(g.cores[id], 0) < 56 {
		g.must(id, g.data())
		g.flow()
	}
	checkRefused(t, "full", g, id, g.change(0, 1, 2), api.ErrIs)
	checkRefused(t, "full", g, id, g.change(0, 1), api.ErrFull)
	checkRefused(t, "full", g, id, g.migrate(), api.ErrFull)
	checkRefused(t, "full", g, id, g.data(), api.ErrFull)
}

// P1203: a log takes entries while it has less than 56, base counted, committed or not.
func TestFull(t *testing.T) {
	for _, base := range list(0, 1, 30, 54, 55, 56, 57, 63, 64) {
		for _, members := range [][]int{{0}, {0, 1, 2}} {
			g := newGroup(t, 3, base, members...)
			g.leads(0)
			last := lastOf(g.cores[0], base)
			g.lost = func(m api.Msg) bool { return true }
			for last < 56 {
				last++
				if index := g.must(0, g.data()); index != last {
					t.Fatalf("base %d: %d, not %d", base, index, last)
				}
			}
			for _, e := range []api.Entry{g.data(), g.migrate(), g.change(1)} {
				checkRefused(t, "full", g, 0, e, api.ErrFull)
			}
			g.lost = nil
			g.rounds(10)
			if g.cores[0].Commit() != max(base, 56) {
				t.Errorf("base %d: commit %d", base, g.cores[0].Commit())
			}
			checkRefused(t, "full, all committed", g, 0, g.data(), api.ErrFull)
		}
	}
}

// P1203: a KMigrate that stands in the log, committed or not, is told ahead of ErrLeader, ErrBusy, ErrIs, ErrFull; one that is gone again is not.
func TestSealInLog(t *testing.T) {
	g := newGroup(t, 3, 0, 0, 1, 2)
	g.leads(0)
	g.must(0, g.data())
	g.flow()
	g.apart(0)
	g.must(0, g.migrate())
	for _, e := range []api.Entry{g.data(), g.change(0, 1, 2), g.change(1), g.migrate()} {
		checkRefused(t, "a seal in the log", g, 0, e, api.ErrSeal)
	}
	g.load(0)
	checkRefused(t, "a seal in the log of one that does not lead", g, 0, g.data(), api.ErrSeal)
	g.leads(1) // of its log the seal is no part
	g.must(1, g.data())
	g.flow()
	g.calm()
	for at, x := range g.cores {
		if x.Sealed() || x.find(0, api.KMigrate) > 0 {
			t.Errorf("core %d has a seal that was never committed", at)
		}
	}
	g.leads(0)
	g.must(0, g.data())
	g.flow()
	full := newGroup(t, 1, 55, 0)
	full.leads(0)
	full.must(0, full.migrate())
	checkRefused(t, "sealed and full", full, 0, full.data(), api.ErrSeal)
	checkRefused(t, "sealed and full", full, 0, full.change(0), api.ErrSeal)
}
