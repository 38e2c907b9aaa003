package paxos

import (
	"testing"

	"synodal/accept"
	"synodal/api"
	"synodal/wire"
)

// stops are one of each kind.
func (g *group) stops() []api.Entry { return []api.Entry{g.change(1, 2), g.migrate(), g.change(8)} }

// checkSealed says that of all cores each is at its end, at that index, and takes nothing, ahead of ErrLeader, ErrIs and ErrFull.
func (g *group) checkSealed(index int, stop api.Entry) {
	g.t.Helper()
	for id, x := range g.cores {
		if e, _ := x.Entry(index); !x.Sealed() || x.Commit() != index || !wire.SameEntry(e, stop) {
			g.t.Fatalf("P1401: core %d: sealed %v, commit %d, at %d %+v", id, x.Sealed(), x.Commit(), index, e)
		}
		for _, e := range []api.Entry{g.data(), g.change(g.members...), g.change(3, 4), g.migrate()} {
			checkRefused(g.t, "sealed", g, id, e, api.ErrSeal)
		}
	}
}

// P1401, P1402: behind a stop that is taken nothing is; when it is committed, nothing ever is, whoever leads and whoever is loaded; somebody leads on.
func TestStop(t *testing.T) {
	for _, count := range list(1, 2, 3, 5, 7) {
		for k := range 3 {
			g := newGroup(t, 9, 4, upTo(count)...)
			id := g.calm()
			g.checkGoes(g.data())
			stop := g.stops()[k]
			g.must(id, g.data())
			index := g.must(id, stop)
			if index != 7 || count > 1 && g.cores[id].Sealed() {
				t.Fatalf("P1402: at %d; sealed %v", index, g.cores[id].Sealed())
			}
			for _, e := range []api.Entry{g.data(), g.change(g.members...), g.change(3, 4), g.migrate()} {
				checkRefused(t, "a stop was proposed", g, id, e, api.ErrSeal)
			}
			g.rounds(40)
			g.checkSealed(index, stop)
			for range 3 {
				g.load(g.calm())
				g.checkSealed(index, stop)
			}
			for at := range g.cores {
				g.load(at)
			}
			g.calm()
			g.checkSealed(index, stop)
		}
	}
}

// P1402: a stop that is proposed is told ahead of ErrIs and ErrFull.
func TestStopAtFull(t *testing.T) {
	g := newGroup(t, 3, 55, 0, 1, 2)
	g.leads(0)
	g.must(0, g.migrate())
	for _, e := range []api.Entry{g.data(), g.change(0, 1, 2), g.change(1), g.migrate()} {
		checkRefused(t, "a stop was proposed, and it is full", g, 0, e, api.ErrSeal)
	}
	checkRefused(t, "one that has voted for none", g, 1, g.data(), api.ErrLeader)
	g.flow()
	g.rounds(4)
	checkRefused(t, "sealed, and full", g, 1, g.change(0, 1, 2), api.ErrSeal)
}

// P1402: a stop that is lost with the one that led is as if it had never been: the instance goes on, and that one may lead, and take entries, again.
func TestStopLost(t *testing.T) {
	for k := range 3 {
		g := newGroup(t, 3, 0, 0, 1, 2)
		g.leads(0)
		g.apart(0)
		g.must(0, g.data())
		stop := g.stops()[k]
		g.must(0, stop) // it waits: nobody has voted for it
		checkRefused(t, "a stop waits", g, 0, g.data(), api.ErrSeal)
		g.leads(1)
		g.must(1, g.data())
		g.flow()
		g.lost = nil
		g.rounds(4)
		for id, x := range g.cores {
			if x.Sealed() || x.Commit() < 1 {
				t.Errorf("P1402: core %d: sealed %v, commit %d", id, x.Sealed(), x.Commit())
			}
		}
		checkRefused(t, "it leads no more", g, 0, g.data(), api.ErrLeader)
		g.leads(0)
		g.must(0, g.data())
		g.must(0, g.migrate())
		g.flow()
		g.calm()
		checkAbsent(t, g, stop)
	}
}

// P1402: one that is loaded has forgotten the stop that it took, and that it led; if a member has voted for it, it may yet be committed.
func TestStopFound(t *testing.T) {
	for k := range 3 {
		g := newGroup(t, 3, 0, 0, 1, 2)
		g.leads(0)
		g.lost = func(m api.Msg) bool { return m.To != 2 }
		stop := g.stops()[k]
		g.must(0, stop)
		g.flow()
		g.load(0)
		checkRefused(t, "loaded", g, 0, g.data(), api.ErrLeader)
		checkRefused(t, "one that has voted for it", g, 2, g.data(), api.ErrLeader)
		g.apart(0)
		g.leads(1)
		if !g.cores[1].Sealed() || g.cores[1].Commit() != 1 {
			t.Fatalf("P1403: what was voted for is not found: commit %d", g.cores[1].Commit())
		}
		g.calm()
		g.checkSealed(1, stop)
	}
}

// P1402: one that stands, and proposes a stop that it found, does not lead yet, and says so.
func TestStopWhileStanding(t *testing.T) {
	g := newGroup(t, 3, 0, 0, 1, 2)
	g.leads(0)
	g.lost = func(m api.Msg) bool { return m.To != 2 }
	g.must(0, g.migrate())
	g.flow()
	g.lost = func(m api.Msg) bool { return m.Kind == offer || m.From == 0 || m.To == 0 }
	for range 20 {
		g.tick(1, 9)
		g.flow()
	}
	x := g.cores[1]
	if x.Role() != api.Candidate || len(x.waits) != 1 || x.Sealed() {
		t.Fatalf("role %d, %d wait", x.Role(), len(x.waits))
	}
	for _, e := range []api.Entry{g.data(), g.change(0, 1, 2), g.change(1), g.migrate()} {
		checkRefused(t, "one that stands", g, 1, e, api.ErrLeader)
	}
	g.calm()
	if !x.Sealed() {
		t.Error("P1403: the stop is not committed")
	}
}

// P1401: whatever may have been voted for, or is told as committed, behind a stop counts for nothing.
func TestBehindStop(t *testing.T) {
	for k := range 3 {
		g := newGroup(t, 3, 0, 0, 1, 2)
		stop, behind := g.stops()[k], g.data()
		x := newCore(t, 0, 0, 0, 1, 2)
		x.Step(api.Msg{From: 1, To: 0, Kind: offer, Term: 10, Commit: 2, Terms: list(10), Entries: []api.Entry{stop, behind, behind}})
		x.Step(api.Msg{From: 1, To: 0, Kind: offer, Term: 10, Index: 1, Commit: 1, Terms: list(10), Entries: []api.Entry{behind}})
		x.Step(api.Msg{From: 1, To: 0, Kind: offer, Term: 10, Index: 1, Commit: 3, Entries: []api.Entry{behind, behind}})
		if _, ok := x.open(); ok || x.Commit() != 1 || !x.Sealed() {
			t.Fatalf("P1401: commit %d, sealed %v", x.Commit(), x.Sealed())
		}
		x.acceptor.Accept(10, 2, behind)
		stands(t, x, 0)
		x.Step(api.Msg{From: 2, To: 0, Kind: promise, Term: x.Term(), Index: 1, Commit: 1, Terms: list(10), Entries: []api.Entry{behind}})
		if x.Role() != api.Leader || len(x.waits) > 0 || x.Commit() != 1 {
			t.Errorf("P1401: role %d, commit %d, %d wait", x.Role(), x.Commit(), len(x.waits))
		}
		for _, id := range list(1, 2) {
			x.Step(api.Msg{From: id, To: 0, Kind: taken, Term: x.Term(), Index: 1, Commit: 1, Terms: list(x.Term()), Entries: []api.Entry{behind}})
		}
		if x.Commit() != 1 || !x.Sealed() {
			t.Errorf("P1401: commit %d behind a stop at 1", x.Commit())
		}
	}
}

// P1403: what was voted for by the greatest ballot is found, not what came first, or is the core's own.
func TestGreatestFound(t *testing.T) {
	l := letters("abc")
	x := newCore(t, 0, 0, upTo(5)...)
	x.vote(accept.Vote{Slot: 1, Ballot: 11, Entry: l[0]})
	stands(t, x, 0)
	for id, ballot := range list(0, 12, 13) {
		if id > 0 {
			x.Step(api.Msg{From: id, To: 0, Kind: promise, Term: x.Term(), Terms: list(ballot), Entries: l[id : id+1]})
		}
	}
	if len(x.waits) != 1 || !wire.SameEntry(x.waits[0], l[2]) {
		t.Errorf("P1403: found: %+v", x.waits)
	}
}
