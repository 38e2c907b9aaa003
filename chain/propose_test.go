package chain

import (
	"math"
	"slices"
	"strings"
	"testing"

	"synodal/api"
	"synodal/conf"
	"synodal/wire"
)

// wrong are entries that are refused whoever is asked, by what the document names first.
func wrong() map[api.Errno][]api.Entry {
	long := strings.Repeat("x", 17)
	of := func(kind int, data string, members []int, to int) api.Entry {
		return api.Entry{Kind: kind, Client: 1, Seq: 1, Data: data, Members: members, To: to}
	}
	return map[api.Errno][]api.Entry{
		api.ErrKind: {
			{}, of(api.KNone, "", nil, 0), of(api.KDone, "", list(1), 0), {Kind: 5, Data: long}, {Kind: -1}, {Kind: math.MinInt}, {Kind: math.MaxInt, To: 9},
		},
		api.ErrArg: {
			{Kind: api.KData, Seq: 1}, {Kind: api.KData, Client: 1, Data: long}, {Kind: api.KData, Client: math.MinInt, Seq: 1},
			{Kind: api.KConf, Seq: 1}, {Kind: api.KConf, Client: 1, Members: upTo(8)}, {Kind: api.KMigrate, Seq: 1, To: 1},
			of(api.KData, "", list(1), 0), of(api.KData, "", nil, 1), of(api.KData, "x", nil, -1),
			of(api.KConf, "", list(2, 1), 0), of(api.KConf, "", list(9), 0), of(api.KConf, "", list(-1), 0),
			of(api.KConf, "x", list(0, 1, 2), 0), of(api.KConf, "", list(0), 1), of(api.KConf, long, list(1), 7),
			of(api.KMigrate, "", nil, 0), of(api.KMigrate, "", nil, 3), of(api.KMigrate, "", nil, -1),
			of(api.KMigrate, "x", nil, 1), of(api.KMigrate, "", list(0), 2), of(api.KMigrate, "", upTo(8), 2),
		},
		api.ErrLong: {of(api.KData, long, nil, 0), of(api.KData, long, nil, 1), of(api.KData, long, upTo(8), 0)},
		api.ErrMany: {of(api.KConf, "", upTo(8), 0), of(api.KConf, "x", make([]int, 100), 1)},
		api.ErrNone: {of(api.KConf, "", nil, 0), of(api.KConf, "x", list(), 5)},
	}
}

// checkWrong says that a core refuses all that is wrong, whatever else would be told.
func checkWrong(t *testing.T, what string, g *group, id int) {
	t.Helper()
	for want, l := range wrong() {
		for _, e := range l {
			checkRefused(t, what, g, id, e, want)
		}
	}
}

// checkRefused says that a core refuses an entry by that.
func checkRefused(t *testing.T, what string, g *group, id int, e api.Entry, want api.Errno) {
	t.Helper()
	if _, errno := g.propose(id, e); errno != want {
		t.Errorf("P1502: %s: Propose(%+v): %v, not %v", what, e, errno, want)
	}
}

// checkAll says that a core refuses all that may be by that: data, the same members, others, a seal.
func checkAll(t *testing.T, what string, g *group, id int, want api.Errno) {
	t.Helper()
	for _, e := range []api.Entry{g.data(), g.change(g.members()...), g.change(8), g.migrate()} {
		checkRefused(t, what, g, id, e, want)
	}
}

// inInstance is a calm group of five cores, in its instance 1, 3 or 5, the members of which are 0 to 2, and who leads; its log has so many entries, base counted.
func inInstance(t *testing.T, number, entries int) (*group, int) {
	t.Helper()
	g := newGroup(t, 5, entries-(number-1), 0, 1, 2)
	g.calm()
	for range number / 2 {
		g.handOn(2, 3, 4)
		g.handOn(0, 1, 2)
	}
	return g, g.leader()
}

// P1502: an entry that may not be is refused ahead of all that a core might be: a Leader or not, with others that wait, full, sealed; in the first instance and in a later one.
func TestWrongEntries(t *testing.T) {
	for _, number := range list(1, 3) {
		g := newGroup(t, 5, 0, 0, 1, 2)
		checkWrong(t, "nobody leads", g, 0)
		g, id := inInstance(t, number, 40)
		checkWrong(t, "a Leader", g, id)
		checkWrong(t, "a Follower", g, (id+1)%3)
		checkWrong(t, "no member", g, 3)
		for range 16 {
			g.must(id, g.data())
		}
		checkWrong(t, "one at whom many wait", g, id)
		g.flow()
		checkWrong(t, "a full one", g, id)
		for k := range 2 {
			g, id = inInstance(t, number, 10)
			stop := []api.Entry{g.migrate(), g.change(4)}[k]
			g.must(id, stop)
			checkWrong(t, "one that proposes a stop", g, id)
			g.flow()
			checkWrong(t, "behind a stop", g, id)
			checkWrong(t, "a Follower behind a stop", g, (id+1)%3)
		}
	}
}

// P1502: what may be is taken: data of no and of most bytes, clients and numbers up to the bound, other members, either seal; each at the next index.
func TestRightEntries(t *testing.T) {
	for _, seal := range list(api.Raft, api.Chain) {
		g := newGroup(t, 2, 9, 0)
		for at, e := range []api.Entry{
			{Kind: api.KData, Client: 1, Seq: 1},
			{Kind: api.KData, Client: 1<<40 - 1, Seq: 1<<40 - 1, Data: "sixteen bytes it"},
			{Kind: api.KConf, Client: 1<<40 - 1, Seq: 1<<40 - 1, Members: list(1)},
			{Kind: api.KData, Client: 1, Seq: 1, Data: "\x00\xff\n", Members: list()},
			{Kind: api.KConf, Client: 1, Seq: 1, Members: list(0)},
			{Kind: api.KMigrate, Client: 7, Seq: 3, To: seal},
		} {
			id := g.members()[0]
			g.leads(id)
			index := g.must(id, e)
			if got, _ := g.cores[id].Entry(10 + at); index != 10+at || g.cores[id].Commit() != index || !wire.SameEntry(got, e) {
				t.Errorf("P1502: Propose(%+v): %d, commit %d, there stands %+v", e, index, g.cores[id].Commit(), got)
			}
			g.flow()
		}
	}
}

// P1502: who does not lead says so, whatever is proposed and may be: a Follower, a Candidate, one that is no member, or no more; ahead of ErrIs and ErrFull.
func TestNotLeader(t *testing.T) {
	for _, number := range list(1, 3) {
		g, id := inInstance(t, number, 56)
		g.lost = func(m api.Msg) bool { return true }
		other := (id + 1) % 3
		stands(t, g.cores[other], 0)
		g.settle(other)
		for at := range 5 {
			if at != id {
				checkAll(t, "one that does not lead", g, at, api.ErrLeader)
			}
		}
		g.load(id)
		checkAll(t, "loaded", g, id, api.ErrLeader)
	}
}

// P1502: the members of the last instance are refused by ErrIs, ahead of ErrFull; those of an elder one are not.
func TestSameMembers(t *testing.T) {
	for _, entries := range list(52, 55, 56) {
		g, id := inInstance(t, 3, entries)
		checkRefused(t, "the same members", g, id, g.change(0, 1, 2), api.ErrIs)
		want := api.OK
		if entries == 56 {
			want = api.ErrFull
		}
		checkRefused(t, "an elder instance's members", g, id, g.change(2, 3, 4), want)
	}
	g := newGroup(t, 3, 0, 0, 1)
	g.calm()
	g.must(g.leader(), g.change(0, 1, 2))
	g.calm()
	checkRefused(t, "the same members", g, g.leader(), g.change(0, 1, 2), api.ErrIs)
	g.must(g.leader(), g.change(0, 1))
}

// P1502: entries are taken while there are less than 56 up to there, base, what waits, and those of all instances counted.
func TestFull(t *testing.T) {
	for _, entries := range list(4, 30, 54, 55, 56, 57, 63, 64) {
		for _, number := range list(1, 3, 5) {
			if entries > 56 && number > 1 {
				break // no instance ends there
			}
			g, id := inInstance(t, number, entries)
			g.lost = func(m api.Msg) bool { return true }
			for last := entries + 1; last <= 56; last++ {
				if index := g.must(id, g.data()); index != last {
					t.Fatalf("P1502: instance %d, behind %d: %d, not %d", number, entries, index, last)
				}
			}
			for _, e := range []api.Entry{g.data(), g.migrate(), g.change(1)} {
				checkRefused(t, "full", g, id, e, api.ErrFull)
			}
			g.lost = nil
			g.rounds(10)
			if g.cores[id].Commit() != max(entries, 56) {
				t.Errorf("P1502: instance %d, behind %d: commit %d", number, entries, g.cores[id].Commit())
			}
			for _, e := range []api.Entry{g.data(), g.migrate(), g.change(1)} {
				checkRefused(t, "full, all committed", g, id, e, api.ErrFull)
			}
			g.loadAll()
			g.rounds(60)
			checkRefused(t, "full, loaded", g, g.leader(), g.data(), api.ErrFull)
		}
	}
}

// P1502: a KConf may be the last one that there is room for: the instance behind it takes nothing.
func TestFullOfChanges(t *testing.T) {
	g := newGroup(t, 2, 0, 0)
	for k := range 56 {
		id, next := k%2, 1-k%2
		g.leads(id)
		if index := g.must(id, g.change(next)); index != k+1 || g.cores[id].Instances() != k+2 {
			t.Fatalf("P1502: at %d, not %d; %d instances", index, k+1, g.cores[id].Instances())
		}
		g.flow()
	}
	g.leads(0)
	for id, x := range g.cores {
		if x.Instances() != 57 || x.Commit() != 56 || x.Term() >= 1<<40 || !conf.Same(x.Config(), api.Config{New: list(0)}) {
			t.Errorf("P1501: core %d: %d instances, commit %d, term %d", id, x.Instances(), x.Commit(), x.Term())
		}
		checkLoaded(t, "57 instances", x)
	}
	for _, e := range []api.Entry{g.data(), g.migrate(), g.change(1)} {
		checkRefused(t, "full", g, 0, e, api.ErrFull)
	}
	checkRefused(t, "full", g, 0, g.change(0), api.ErrIs)
	checkRefused(t, "full", g, 1, g.change(0), api.ErrLeader)
}

// P1502: behind a KConf, or a KMigrate, that waits, or was proposed, nothing is taken by ErrSeal, ahead of ErrIs and ErrFull; one that does not lead says ErrLeader.
func TestBehindStop(t *testing.T) {
	for _, number := range list(1, 3) {
		for k := range 4 {
			g, id := inInstance(t, number, 54)
			g.lost = func(m api.Msg) bool { return true }
			if k >= 2 { // it waits
				g.must(id, g.data())
			}
			stop := []api.Entry{g.change(3, 4), g.migrate()}[k%2]
			index := g.must(id, stop)
			if want := 55 + k/2; index != want {
				t.Errorf("P1502: at %d, not %d", index, want)
			}
			checkAll(t, "a stop was taken", g, id, api.ErrSeal)
			checkAll(t, "one that has not heard of it", g, (id+1)%3, api.ErrLeader)
			if x := g.cores[id]; x.Sealed() || x.Instances() != number || x.Commit() != 54 {
				t.Errorf("P1501: sealed %v, %d instances, commit %d", x.Sealed(), x.Instances(), x.Commit())
			}
			id = g.calm()
			if at, _ := g.cores[id].Entry(index); !wire.SameEntry(at, stop) || g.cores[id].Commit() != index {
				t.Errorf("P1502: at %d %+v, commit %d", index, at, g.cores[id].Commit())
			}
		}
	}
}

// P1502: behind a KConf that is committed nobody leads at first; then the one that does takes what comes, as its next index.
func TestBehindChange(t *testing.T) {
	for _, number := range list(1, 3) {
		g, id := inInstance(t, number, 10)
		g.must(id, g.data())
		g.must(id, g.data())
		index := g.must(id, g.change(1, 3, 4))
		g.flow()
		for at, x := range g.cores {
			if x.Instances() != number+1 || x.Commit() != index || x.Sealed() {
				t.Fatalf("P1501: core %d: %d instances, commit %d, sealed %v", at, x.Instances(), x.Commit(), x.Sealed())
			}
			checkAll(t, "behind a change", g, at, api.ErrLeader)
		}
		id = g.calm()
		if got := g.must(id, g.data()); got != index+1 {
			t.Errorf("P1502: at %d, not %d", got, index+1)
		}
	}
}

// P1502: a KConf that is lost with the one that led is as if it had never been: the instance goes on, and that one may lead, and take entries, again.
func TestChangeLost(t *testing.T) {
	for _, number := range list(1, 3) {
		for k := range 2 {
			g, id := inInstance(t, number, 10)
			other := (id + 1) % 3
			g.apart(id)
			if k == 1 {
				g.must(id, g.data())
			}
			stop := g.change(3, 4)
			g.must(id, stop)
			g.leads(other)
			g.must(other, g.data())
			g.flow()
			g.calm()
			for at, x := range g.cores {
				if x.Instances() != number || x.Commit() < 11 {
					t.Errorf("P1501: core %d: %d instances, commit %d", at, x.Instances(), x.Commit())
				}
			}
			g.leads(id)
			g.flow()
			g.must(id, g.data())
			g.must(id, g.change(0, 4))
			g.calm()
			if slices.ContainsFunc(g.all, func(e api.Entry) bool { return wire.SameEntry(e, stop) }) {
				t.Error("P1502: what was forgotten is committed")
			}
		}
	}
}

// P1502, P1503: a KConf that a member has voted for is found, and committed, by the next one that leads there, though who took it has forgotten it; its members go on.
func TestChangeFound(t *testing.T) {
	for _, number := range list(1, 3) {
		g, id := inInstance(t, number, 10)
		other, third := (id+1)%3, (id+2)%3
		g.lost = func(m api.Msg) bool { return m.To != other }
		stop := g.change(3, 4)
		index := g.must(id, stop)
		g.flow()
		g.load(id)
		checkAll(t, "loaded", g, id, api.ErrLeader)
		g.apart(id)
		for range 30 {
			g.tick(third, 0)
			g.flow()
		}
		if at, _ := g.cores[third].Entry(index); !wire.SameEntry(at, stop) || g.cores[third].Instances() != number+1 || len(g.all) != index-g.base {
			t.Fatalf("P1503: at %d %+v", index, at)
		}
		if id = g.calm(); id < 3 {
			t.Errorf("P1503: %d leads", id)
		}
		g.checkGoes(g.data())
	}
}

// P1501, P1502: when a KMigrate is committed nothing ever is behind it, whoever leads and whoever is loaded; all cores refuse all by ErrSeal, ahead of ErrLeader, ErrIs and ErrFull.
func TestSeal(t *testing.T) {
	for _, number := range list(1, 3) {
		for _, entries := range list(4, 55) {
			g, id := inInstance(t, number, entries)
			index := g.must(id, g.migrate())
			if index != entries+1 || g.cores[id].Sealed() {
				t.Fatalf("P1502: at %d", index)
			}
			g.rounds(40)
			checkSealed(t, g, index)
			for range 3 {
				g.load(g.calm())
				checkSealed(t, g, index)
			}
			for at := range g.cores {
				for range 40 {
					g.tick(at, 0)
					g.flow()
				}
				checkSealed(t, g, index)
			}
			g.loadAll()
			g.calm()
			checkSealed(t, g, index)
			if x := g.cores[0]; x.Instances() != number {
				t.Errorf("P1501: %d instances", x.Instances())
			}
		}
	}
}

// checkSealed says that all cores are sealed at an index.
func checkSealed(t *testing.T, g *group, index int) {
	t.Helper()
	for id, x := range g.cores {
		if !x.Sealed() || x.Commit() != index {
			t.Fatalf("P1501: core %d: sealed %v, commit %d, not %d", id, x.Sealed(), x.Commit(), index)
		}
		checkAll(t, "sealed", g, id, api.ErrSeal)
	}
}
