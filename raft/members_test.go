package raft

import (
	"slices"
	"testing"

	"synodal/api"
	"synodal/conf"
	"synodal/wire"
)

// kinds tells the kinds of what was committed.
func (g *group) kinds() []int {
	var out []int
	for _, e := range g.all {
		out = append(out, e.Kind)
	}
	return out
}

// checkMembers says that behind a change one of these leads, with these members; all cores know it.
func (g *group) checkMembers(members ...int) {
	g.t.Helper()
	id := g.checkCalm()
	if !slices.Contains(members, id) {
		g.t.Errorf("P1204: %d leads, of %v", id, members)
	}
	for at, x := range g.cores {
		if !conf.Same(x.Config(), api.Config{New: members}) {
			g.t.Errorf("P1204: core %d: %v, not %v", at, x.Config(), members)
		}
	}
}

// P1204: members change to more, to fewer, to none of the first, to one, to all but it; each change is a KConf and a KDone, with those that count alone then.
func TestChanges(t *testing.T) {
	for _, first := range [][]int{{0}, {0, 1}, {0, 1, 2}, {2, 4, 6, 8}, {1, 2, 3, 4, 5, 6, 7}} {
		g := newGroup(t, 9, 1, first...)
		g.calm()
		for _, l := range [][]int{{0, 1, 2, 3}, {4, 5, 6}, {4}, {8}, {0, 1, 2, 3, 5, 6, 7}, {7, 8}, {6, 7}} {
			was := len(g.all)
			g.must(g.leader(), g.change(l...))
			g.must(g.leader(), g.data())
			g.rounds(100)
			g.checkMembers(l...)
			var done []api.Entry
			for _, e := range g.all[was:] {
				if e.Kind == api.KDone {
					done = append(done, e)
				}
			}
			if len(done) != 1 || !wire.SameEntry(done[0], api.Entry{Kind: api.KDone, Members: l}) {
				t.Fatalf("P1204: to %v: %+v", l, done)
			}
			if len(g.all) < 48 {
				g.checkGoes(g.data())
			}
		}
	}
}

// P1204: a KConf counts from where it stands on, at each core that has it, committed or not; then the members are joint.
func TestCountsWhereItStands(t *testing.T) {
	g := newGroup(t, 6, 0, 0, 1, 2, 3, 4)
	g.leads(0)
	g.only(0, 1)
	g.must(0, g.change(4, 5))
	g.flow()
	joint, plain := api.Config{Old: upTo(5), New: list(4, 5)}, api.Config{New: upTo(5)}
	for id, want := range []api.Config{joint, joint, plain, plain, plain, plain} {
		if got := g.cores[id].Config(); !conf.Same(got, want) || g.cores[id].Commit() != 0 {
			t.Errorf("core %d: %v, commit %d, not %v", id, got, g.cores[id].Commit(), want)
		}
	}
	loaded, _ := Load(1, g.saved[1])
	if !conf.Same(loaded.Config(), joint) {
		t.Errorf("loaded: %v", loaded.Config())
	}
	// The other three elect one that has not got it; then it counts nowhere any more.
	g.apart(0, 1)
	g.leads(2)
	g.must(2, g.data())
	g.flow()
	g.calm()
	for id, x := range g.cores {
		if c := x.Config(); !conf.Same(c, plain) || slices.Contains(g.kinds(), api.KConf) {
			t.Errorf("core %d: %v", id, c)
		}
	}
}

// P1204: what is joint needs quorums of both lists, to commit and to lead.
func TestBothQuorums(t *testing.T) {
	for _, c := range []struct {
		hear    []int
		commits bool
	}{
		{list(0, 1, 2), false},
		{list(0, 3, 4, 5), false},
		{list(0, 1, 3), false},
		{list(0, 2, 3, 4, 5), true},
		{list(0, 1, 3, 4), true},
		{list(0, 1, 2, 4), false},
		{list(0, 1, 2, 3, 4, 5), true},
	} {
		g := newGroup(t, 6, 0, 0, 1, 2)
		g.leads(0)
		index := g.must(0, g.change(3, 4, 5))
		g.only(c.hear...)
		for range 9 {
			g.tick(0, 0)
			g.flow()
		}
		if is := len(g.all) >= index; is != c.commits {
			t.Errorf("P1204: %v hear it: %v is committed", c.hear, g.kinds())
		}
		if !c.commits {
			g.load(0)
			for range 40 { // nobody of these may lead
				g.tick(0, 0)
				g.flow()
				if g.cores[0].Role() == api.Leader {
					t.Fatalf("P1204: with the votes of %v alone it leads", c.hear)
				}
			}
		}
	}
}

// P1204: what stands ahead of a KConf, not committed, needs both quorums, too, once that stands there.
func TestAheadOfChange(t *testing.T) {
	g := newGroup(t, 5, 0, 0, 1, 2)
	g.leads(0)
	g.only(0)
	g.must(0, g.data())
	g.must(0, g.change(3, 4))
	g.only(0, 1, 2)
	g.rounds(9)
	if len(g.all) > 0 {
		t.Errorf("P1204: committed without the newer ones: %v", g.kinds())
	}
	g.calm()
	if want := list(api.KData, api.KConf, api.KDone); !slices.Equal(g.kinds(), want) {
		t.Errorf("committed: %v, not %v", g.kinds(), want)
	}
}

// P1204: a Leader that is left out leads, and takes entries, until the KDone is committed; then it does not, and stands no more.
func TestLeaderLeftOut(t *testing.T) {
	g := newGroup(t, 4, 0, 0, 1, 2)
	g.leads(0)
	g.must(0, g.change(1, 2, 3))
	g.lost = func(m api.Msg) bool { // what the KDone needs is not heard
		return m.Kind == taken && g.cores[0].find(0, api.KDone) > 0
	}
	g.flow()
	g.rounds(8)
	x := g.cores[0]
	if !conf.Same(x.Config(), api.Config{New: list(1, 2, 3)}) || x.Role() != api.Leader || x.Commit() != 1 {
		t.Fatalf("P1204: %v, role %d, commit %d", x.Config(), x.Role(), x.Commit())
	}
	g.must(0, g.data())
	checkRefused(t, "a Leader that is no member", g, 0, g.migrate(), api.ErrBusy)
	g.lost = nil
	g.rounds(5)
	if x.Role() != api.Follower || x.Commit() < 2 {
		t.Fatalf("P1204: role %d, commit %d", x.Role(), x.Commit())
	}
	checkRefused(t, "one that is left out", g, 0, g.data(), api.ErrLeader)
	term := x.Term()
	g.only(0)
	for range 100 {
		g.tick(0, 0)
	}
	if x.Term() != term || x.Role() != api.Follower {
		t.Errorf("P1204: left out, it stands: term %d, role %d", x.Term(), x.Role())
	}
	g.calm()
	g.checkMembers(1, 2, 3)
}

// P1204: who is no member votes, and takes entries, of any that asks.
func TestNoMemberVotes(t *testing.T) {
	x := newCore(t, 7, 4, 0, 1, 2)
	for term, from := range list(5, 1, 8, 0, 3) {
		x.Step(api.Msg{From: from, To: 7, Kind: ask, Term: term + 1, Index: 4})
		checkVote(t, "no member", x, from, term+1, true)
	}
	e := api.Entry{Kind: api.KData, Client: 1, Seq: 1}
	x.Step(api.Msg{From: 6, To: 7, Kind: entries, Term: 9, Index: 4, Commit: 5, Terms: list(8, 9), Entries: []api.Entry{e, e}})
	if x.Commit() != 5 || lastOf(x, 4) != 6 || x.Term() != 9 {
		t.Errorf("commit %d, the log up to %d, term %d", x.Commit(), lastOf(x, 4), x.Term())
	}
	x.Out()
	x.Step(api.Msg{From: 2, To: 7, Kind: ask, Term: 10, Index: 7, Last: 8})
	checkVote(t, "one that asks with an elder log", x, 2, 10, false)
	for range 100 {
		x.Tick(0)
	}
	if x.Term() != 10 || x.Role() != api.Follower || len(x.Out()) > 0 {
		t.Errorf("P1204: no member, and it stands")
	}
}

// P1204: a core that was no member becomes one by what stands in its log: it stands, and leads.
func TestBecomesMember(t *testing.T) {
	g := newGroup(t, 4, 0, 0, 1)
	g.leads(0)
	for range 100 {
		g.tick(3, 0)
	}
	if g.cores[3].Term() != g.cores[0].Term() {
		t.Errorf("P1204: no member, and it stands")
	}
	g.must(0, g.change(0, 1, 3))
	g.flow()
	g.leads(3)
	g.must(3, g.data())
	g.rounds(10)
	g.checkMembers(0, 1, 3)
}

// P1204: a core is a member by a KConf that is not committed, too: it stands, by both lists.
func TestMemberByWhatIsNotCommitted(t *testing.T) {
	x := newCore(t, 3, 0, 0)
	l := []api.Entry{{Kind: api.KConf, Client: 1, Seq: 1, Members: list(3)}}
	x.Step(api.Msg{From: 0, To: 3, Kind: entries, Term: 1, Terms: list(1), Entries: l})
	stands(t, x, 0)
	if x.Role() != api.Candidate {
		t.Fatalf("P1204: with the newer list alone: role %d", x.Role())
	}
	x.Step(api.Msg{From: 0, To: 3, Kind: vote, Term: 2, Yes: true})
	if x.Role() != api.Leader {
		t.Errorf("P1204: with both lists: role %d", x.Role())
	}
}

// P1204: one that begins to lead where a change is committed, but not at its end, adds the KDone.
func TestEndsChangeOfAnother(t *testing.T) {
	x := newCore(t, 1, 0, 0, 1)
	l := []api.Entry{{Kind: api.KConf, Client: 1, Seq: 1, Members: list(1, 2)}, {}}
	x.Step(api.Msg{From: 0, To: 1, Kind: entries, Term: 2, Commit: 1, Terms: list(1, 2), Entries: l})
	stands(t, x, 0)
	for _, id := range list(0, 2) {
		x.Step(api.Msg{From: id, To: 1, Kind: vote, Term: x.Term(), Yes: true})
	}
	if e := entryOf(x, 3); !wire.SameEntry(e, api.Entry{Kind: api.KDone, Members: list(1, 2)}) || lastOf(x, 0) != 3 {
		t.Errorf("P1204: at 3: %+v", e)
	}
}

// P1203, P1204: a change whose KDone has no room stays joint, and busy.
func TestNoRoomForDone(t *testing.T) {
	x := newCore(t, 0, 0, 0)
	terms, l := make([]int, 63), make([]api.Entry, 63)
	for i := range terms {
		terms[i] = 1
	}
	l[62] = api.Entry{Kind: api.KConf, Client: 1, Seq: 1, Members: list(0, 1)}
	x.Step(api.Msg{From: 1, To: 0, Kind: entries, Term: 1, Terms: terms, Entries: l})
	ledBy(t, x, 1)
	takes(x, 1, x.Term(), 64)
	if x.Commit() != 64 || !conf.Joint(x.Config()) || x.Role() != api.Leader {
		t.Fatalf("commit %d, %v, role %d", x.Commit(), x.Config(), x.Role())
	}
	for _, e := range []api.Entry{{Kind: api.KConf, Client: 1, Seq: 2, Members: list(0, 1)}, {Kind: api.KMigrate, Client: 1, Seq: 2, To: 1}} {
		if _, errno := x.Propose(e); errno != api.ErrBusy {
			t.Errorf("P1203: Propose(%+v): %v", e, errno)
		}
	}
	checkLoaded(t, "no room", x, 0)
}

// P1204, P1206: when a Leader that is left out gets that committed, all others that are left out hear of it, and do not stand.
func TestAllLeftOutHear(t *testing.T) {
	g := newGroup(t, 9, 0, 0, 1, 2, 3, 6, 7, 8)
	g.leads(0)
	g.must(0, g.change(4))
	g.flow()
	terms := slices.Clone(g.terms)
	for id := range g.cores {
		for range 40 {
			if id != 4 {
				g.tick(id, 0)
			}
		}
	}
	if !slices.Equal(g.terms, terms) {
		t.Errorf("P1204: the terms were %v, now %v", terms, g.terms)
	}
	g.calm()
	g.checkMembers(4)
}

// alone is a core 0 whose log alone has the KDone that leaves it out: its members were it, and 1 is to be the one. It has not got it committed.
func alone(t *testing.T) *group {
	t.Helper()
	g := newGroup(t, 3, 0, 0)
	g.leads(0)
	g.must(0, g.change(1))
	g.lost = func(m api.Msg) bool { return len(m.Entries) > 0 && m.Entries[len(m.Entries)-1].Kind == api.KDone }
	g.flow()
	x := g.cores[0]
	if !conf.Same(x.Config(), api.Config{New: list(1)}) || x.Commit() != 1 || g.cores[1].find(0, api.KDone) > 0 {
		t.Fatalf("%v, commit %d", x.Config(), x.Commit())
	}
	g.load(0)
	return g
}

// P1204: one whose log alone has the KDone that leaves it out stands still, leads, and gets it committed; then the other one leads.
func TestLeftOutByOwnEntry(t *testing.T) {
	g := alone(t)
	g.apart(0)
	term := g.cores[0].Term()
	for range 20 {
		g.tick(0, 0)
	}
	if g.cores[0].Term() == term || g.cores[0].Role() != api.Candidate {
		t.Errorf("P1204: it does not stand: term %d, role %d", g.cores[0].Term(), g.cores[0].Role())
	}
	g = alone(t)
	for range 60 { // without it the other one cannot lead
		g.tick(1, 0)
		g.flow()
		if g.cores[1].Role() == api.Leader {
			t.Fatal("P1204: core 1 leads with an elder log")
		}
	}
	g.calm()
	g.checkMembers(1)
}

// P1204, P1206: one that is left out and does not know it, and one that is a member by an entry that is gone alone, come to rest.
func TestComeToRest(t *testing.T) {
	g := newGroup(t, 6, 0, 0, 1, 2)
	g.leads(0)
	g.only(0, 5)
	g.must(0, g.change(0, 1, 5)) // core 5 has it; the others do not
	g.flow()
	g.apart(0, 5)
	for _, l := range [][]int{{1, 2, 3}, {2, 3, 4}, {3, 4}} {
		g.leads(l[0])
		g.must(l[0], g.change(l...))
		g.flow()
		for range 5 {
			g.tick(l[0], 0)
			g.flow()
		}
	}
	for range 300 { // of high terms
		g.tick(5, 1)
		g.tick(0, 2)
	}
	g.calm()
	g.checkMembers(3, 4)
	term := g.cores[3].Term()
	g.checkGoes(g.data())
	g.rounds(100)
	if g.cores[3].Term() != term {
		t.Errorf("P1206: the term was %d, now it is %d", term, g.cores[3].Term())
	}
}

// P1204: behind a committed KMigrate nothing is committed, for good, whoever leads, is loaded, ticks on.
func TestSealed(t *testing.T) {
	g := newGroup(t, 4, 6, 0, 1, 2)
	g.leads(0)
	g.must(0, g.data())
	index := g.must(0, g.migrate())
	if g.cores[0].Sealed() {
		t.Error("P1204: sealed ahead of the commit")
	}
	g.flow()
	for id := range 4 {
		g.rounds(60)
		if x := g.cores[id]; !x.Sealed() || x.Commit() != index || lastOf(x, 6) != index {
			t.Fatalf("P1204: core %d: sealed %v, commit %d, not %d", id, x.Sealed(), x.Commit(), index)
		}
		checkRefused(t, "sealed", g, id, g.data(), api.ErrSeal)
		g.load(g.leader())
		g.load(id)
		checkRefused(t, "sealed, loaded", g, id, g.data(), api.ErrSeal)
	}
	g.calm()
}

// P1204: a KMigrate that an elder term left is committed by one that leads later, by a filler behind it that is never committed, nor told.
func TestSealOfElderTerm(t *testing.T) {
	g := newGroup(t, 3, 0, 0, 1, 2)
	g.leads(0)
	index := g.must(0, g.migrate())
	g.lost = func(m api.Msg) bool { return m.Kind == taken }
	g.flow()
	g.apart(0)
	for id := 1; id <= 2; id++ {
		g.lost = func(m api.Msg) bool { return m.Kind == taken || m.From == 0 || m.To == 0 }
		g.leads(id)
		if x := g.cores[id]; x.Commit() != 0 || lastOf(x, 0) != index+id {
			t.Fatalf("core %d: commit %d, the log up to %d", id, x.Commit(), lastOf(x, 0))
		}
		checkRefused(t, "a seal of an elder term", g, id, g.data(), api.ErrSeal)
	}
	g.calm()
	for id, x := range g.cores {
		if !x.Sealed() || x.Commit() != index || lastOf(x, 0) != index {
			t.Errorf("P1204: core %d: sealed %v, commit %d, the log up to %d", id, x.Sealed(), x.Commit(), lastOf(x, 0))
		}
	}
	last := g.cores[0].log.Last()
	for id := range g.cores { // no filler comes behind a seal that is known
		g.leads(id)
		g.flow()
		if now := g.cores[id].log.Last(); now != last {
			t.Errorf("core %d: the log goes up to %d, not %d", id, now, last)
		}
	}
}
