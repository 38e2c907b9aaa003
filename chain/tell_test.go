package chain

import (
	"slices"
	"testing"

	"synodal/api"
	"synodal/wire"
)

// count counts, by kinds, the messages that are sent to nodes from that one on, whether they are lost or not.
func (g *group) count(from int) map[int]int {
	out := map[int]int{}
	lost := g.lost
	g.lost = func(m api.Msg) bool {
		if m.To >= from {
			out[m.Kind]++
		}
		return lost != nil && lost(m)
	}
	return out
}

// checkSilent says that nobody has anything to tell of instances at their end.
func (g *group) checkSilent() {
	g.t.Helper()
	counts := g.count(0)
	g.rounds(20)
	g.lost = nil
	if counts[story]+counts[place] > 0 {
		g.t.Errorf("all know it: %d stories, %d answers", counts[story], counts[place])
	}
}

// P1501: those that are members of an instance that is at its end tell members of the next one till these know it, at every fourth tick, whatever is lost; then they are silent.
func TestToldTillKnown(t *testing.T) {
	for _, kind := range list(story, place) {
		g := newGroup(t, 6, 0, 0, 1, 2)
		id := g.calm()
		g.lost = func(m api.Msg) bool { return m.Kind == kind }
		g.must(id, g.change(3, 4, 5))
		g.flow()
		for at := range 3 {
			if g.cores[at].Instances() != 2 {
				t.Fatalf("P1501: core %d: %d instances", at, g.cores[at].Instances())
			}
		}
		counts := g.count(3)
		for range 40 { // the elder ones alone tick
			for at := range 3 {
				g.tick(at, 7*at)
			}
			g.flow()
		}
		if counts[story] != 3*3*10 {
			t.Errorf("%d stories within 40 ticks, of three, to three", counts[story])
		}
		for at := 3; at < 6; at++ {
			if want := 1 + kind - story; g.cores[at].Instances() != want {
				t.Errorf("P1501: core %d: %d instances, not %d", at, g.cores[at].Instances(), want)
			}
		}
		g.lost = nil
		g.rounds(5)
		for at, x := range g.cores {
			if x.Instances() != 2 || x.Commit() != 1 {
				t.Errorf("P1501: core %d: %d instances, commit %d", at, x.Instances(), x.Commit())
			}
		}
		g.checkSilent()
		g.calm()
		g.checkGoes(g.data())
	}
}

// lone makes core 0 lead, and get other members committed: nobody else knows it.
func lone(g *group, members ...int) {
	g.t.Helper()
	g.leads(0)
	g.flow()
	g.must(0, g.data())
	g.flow()
	g.must(0, g.change(members...))
	g.lost = func(m api.Msg) bool { return m.From == 0 }
	g.flow()
	for id, x := range g.cores {
		if want := map[bool]int{true: 2, false: 1}[id == 0]; x.Instances() != want {
			g.t.Fatalf("core %d: %d instances, not %d", id, x.Instances(), want)
		}
	}
	g.lost = nil
}

// P1501, P1503: where one core alone knows that an instance is at its end it tells all members, elder and newer ones, though none of them does anything; loaded or not.
func TestOneKnows(t *testing.T) {
	for _, loaded := range []bool{false, true} {
		for _, members := range [][]int{{3, 4}, {0, 3}, {0}, {1, 2}, {5}, {0, 1, 2, 3, 4, 5}} {
			g := newGroup(t, 7, 0, 0, 1, 2)
			lone(g, members...)
			if loaded {
				g.load(0)
			}
			for range 4 {
				g.tick(0, 0)
			}
			g.flow()
			for _, id := range slices.Concat(list(0, 1, 2), members) {
				if x := g.cores[id]; x.Instances() != 2 || x.Commit() != 2 {
					t.Errorf("P1501: %v: core %d: %d instances, commit %d", members, id, x.Instances(), x.Commit())
				}
			}
			g.calm()
			g.checkGoes(g.data())
			g.checkSilent()
		}
	}
}

// P1501, P1503: where that one is gone the elder members find out by themselves, and go on; when it is back it has the same.
func TestOneKnewAndIsGone(t *testing.T) {
	g := newGroup(t, 6, 0, 0, 1, 2)
	lone(g, 3, 4)
	g.apart(0)
	g.rounds(100)
	for id := 1; id < 6; id++ {
		if x := g.cores[id]; x.Instances() != 2 || x.Commit() != 2 {
			t.Errorf("P1503: core %d: %d instances, commit %d", id, x.Instances(), x.Commit())
		}
	}
	g.calm()
	g.checkGoes(g.data())
}

// P1501, P1503: a member of an elder instance that was away while others were handed on to, whatever it was, is told all of it when it is back: it leads, and stands, no more, and forgets what it took.
func TestElderIsTold(t *testing.T) {
	for what := range 4 {
		g := newGroup(t, 9, 0, 0, 1, 2)
		g.leads(0)
		g.flow()
		g.checkGoes(g.data())
		g.apart(0)
		forgotten := g.data()
		switch what {
		case 1:
			g.must(0, forgotten)
			g.must(0, g.change(0, 8))
		case 2:
			g.load(0)
			for range 50 {
				g.tick(0, 0)
			}
		case 3:
			g.load(0)
		}
		for _, members := range [][]int{{2, 3, 4}, {4, 5, 6}, {6, 7, 8}} {
			g.rounds(60)
			for id, x := range g.cores {
				if id != 0 && x.Role() == api.Leader {
					g.must(id, g.data())
					g.must(id, g.change(members...))
				}
			}
		}
		g.rounds(60)
		if x := g.cores[0]; x.Instances() != 1 || x.Commit() != 1 || g.cores[6].Instances() != 4 {
			t.Fatalf("%d and %d instances", x.Instances(), g.cores[6].Instances())
		}
		g.lost = nil
		g.rounds(5)
		if x := g.cores[0]; x.Instances() != 4 || x.Commit() != 7 || x.Role() != api.Follower {
			t.Errorf("P1501: %d instances, commit %d, role %d", x.Instances(), x.Commit(), x.Role())
		}
		g.calm()
		g.checkGoes(g.data())
		if slices.ContainsFunc(g.all, func(e api.Entry) bool { return wire.SameEntry(e, forgotten) }) {
			t.Error("P1502: what was forgotten is committed")
		}
		g.checkSilent()
	}
}

// P1501: one that has lost what ended its instance, having told nobody that it knew, is told it again; so is one that had told it, as soon as it asks.
func TestLostEnd(t *testing.T) {
	for _, said := range []bool{false, true} {
		g := newGroup(t, 6, 0, 0, 1, 2)
		g.leads(0)
		g.flow()
		old := slices.Clone(g.saved)
		g.lost = func(m api.Msg) bool { return !said && m.From == 2 }
		g.must(0, g.change(0, 3, 4))
		g.flow()
		if g.cores[2].Instances() != 2 {
			t.Fatalf("%d instances", g.cores[2].Instances())
		}
		g.lost = nil
		g.net = nil
		x, e := Load(2, old[2])
		if e != api.OK {
			t.Fatal(e)
		}
		g.cores[2], g.saved[2], g.commits[2], g.terms[2], g.instances[2] = x, x.Save(), 0, 0, 1
		if said {
			g.leads(0)
			g.flow()
		}
		for range 4 {
			g.tick(0, 0)
			g.flow()
		}
		if x.Instances() != 2 || x.Commit() != 1 {
			t.Errorf("P1501: said %v: %d instances, commit %d", said, x.Instances(), x.Commit())
		}
		g.calm()
		g.checkGoes(g.data())
	}
}

// P1501: one that is a member of no instance at its end tells nobody of its own accord, but whoever asks, or speaks of an elder instance.
func TestWhoTells(t *testing.T) {
	for id := range 6 {
		x := newCore(t, id, 0, 0, 1, 2)
		x.Step(api.Msg{From: (id + 1) % 6, To: id, Kind: story, Term: 1 << ballotBits, Commit: 1, Entries: []api.Entry{change(2, 3)}})
		var to []int
		for _, m := range x.Out() {
			if m.Kind == story {
				to = append(to, m.To)
			}
		}
		for range 4 {
			x.Tick(0)
		}
		for _, m := range x.Out() {
			if m.Kind == story {
				to = append(to, m.To)
			}
		}
		var want []int
		for other := range 4 {
			if id < 3 && other != id && other != (id+1)%6 {
				want = append(want, other)
			}
		}
		if want = append(want, want...); !slices.Equal(to, want) {
			t.Errorf("core %d tells %v, not %v", id, to, want)
		}
		for _, m := range []api.Msg{{From: 8, To: id, Kind: ask, Term: 8}, {From: 7, To: id, Kind: place, Yes: true}} {
			x.Step(m)
			if out := x.Out(); len(out) != 1 || out[0].Kind != story || out[0].To != m.From {
				t.Errorf("core %d answers %+v by %+v", id, m, out)
			}
		}
	}
}

// P1501: behind a Load of all, those who must tell once more, till all are known to know; each is told only what it may lack.
func TestToldOnceMore(t *testing.T) {
	g := newGroup(t, 6, 0, 0, 1, 2)
	g.calm()
	g.handOn(2, 3, 4)
	g.handOn(0, 4, 5)
	g.checkSilent()
	g.loadAll()
	counts := g.count(0)
	g.rounds(4)
	if counts[story] == 0 || counts[story] != counts[place] {
		t.Errorf("behind a load: %d stories, %d answers", counts[story], counts[place])
	}
	g.lost = nil
	g.calm()
	g.checkSilent()
	x := g.cores[0]
	x.knows[3] = 1
	x.tell(3)
	if out := x.Out(); len(out) != 1 || out[0].Index != 1 || len(out[0].Entries) != 1 || out[0].Entries[0].Kind != api.KConf {
		t.Errorf("one that knows of one: %+v", out)
	}
}
