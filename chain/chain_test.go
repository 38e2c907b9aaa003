package chain

import (
	"math"
	"slices"
	"testing"

	"synodal/api"
	"synodal/conf"
	"synodal/wire"
)

func list(numbers ...int) []int { return numbers }

// upTo is the nodes from 0 on, so many.
func upTo(count int) []int {
	var out []int
	for id := range count {
		out = append(out, id)
	}
	return out
}

// letters are entries, one a letter.
func letters(text string) []api.Entry {
	var out []api.Entry
	for i, c := range text {
		out = append(out, api.Entry{Kind: api.KData, Client: 1, Seq: i + 1, Data: string(c)})
	}
	return out
}

// change is a request for other members.
func change(members ...int) api.Entry {
	return api.Entry{Kind: api.KConf, Client: 1, Seq: 1, Members: members}
}

// stands lets ticks go by till a core stands, once more if it did; it tells how many.
func stands(t *testing.T, x *Core, draw int) int {
	t.Helper()
	term := x.Term()
	for ticks := 1; ticks <= 20; ticks++ {
		x.Tick(draw)
		if x.Term() > term {
			return ticks
		}
	}
	t.Fatalf("core %d does not stand", x.id)
	return 0
}

// P1501: New's errors, in their order, and its bounds.
func TestNew(t *testing.T) {
	for _, c := range []struct {
		id      int
		members []int
		base    int
		want    api.Errno
	}{
		{0, list(0), 0, api.OK},
		{8, list(8), 64, api.OK},
		{8, list(1, 2), 5, api.OK},
		{3, upTo(7), 63, api.OK},
		{0, list(2, 3, 4, 5, 6, 7, 8), 0, api.OK},
		{-1, list(0), 0, api.ErrArg},
		{9, list(0), 0, api.ErrArg},
		{math.MinInt, list(0), 0, api.ErrArg},
		{math.MaxInt, list(0), 0, api.ErrArg},
		{0, list(0), -1, api.ErrArg},
		{0, list(0), 65, api.ErrArg},
		{0, list(0), math.MinInt, api.ErrArg},
		{0, list(0), math.MaxInt, api.ErrArg},
		{0, nil, 0, api.ErrNone},
		{0, list(), 0, api.ErrNone},
		{0, upTo(8), 0, api.ErrMany},
		{0, make([]int, 1000), 0, api.ErrMany},
		{0, list(-1), 0, api.ErrArg},
		{0, list(9), 0, api.ErrArg},
		{0, list(1, 1), 0, api.ErrArg},
		{0, list(2, 1), 0, api.ErrArg},
		{9, nil, 0, api.ErrArg},
		{0, nil, 65, api.ErrArg},
		{-1, upTo(8), 0, api.ErrArg},
		{0, upTo(8), -1, api.ErrArg},
	} {
		x, e := New(c.id, c.members, c.base)
		if e != c.want || (x == nil) != (e != api.OK) {
			t.Errorf("New(%d, %v, %d): %v, not %v", c.id, c.members, c.base, e, c.want)
		}
		if x != nil {
			checkFresh(t, x, c.members, c.base)
		}
	}
}

// checkFresh says that a core is as a new one.
func checkFresh(t *testing.T, x *Core, members []int, base int) {
	t.Helper()
	if x.Commit() != base || x.Role() != api.Follower || x.Term() != 0 || x.Sealed() || x.Instances() != 1 || len(x.Out()) > 0 {
		t.Errorf("P1501: a new core: commit %d, role %d, term %d, sealed %v, %d instances", x.Commit(), x.Role(), x.Term(), x.Sealed(), x.Instances())
	}
	if c := x.Config(); !conf.Same(c, api.Config{New: members}) {
		t.Errorf("P1501: a new core: Config %v, not %v", c, members)
	}
	for _, i := range list(math.MinInt, -1, 0, base, base+1, 65, math.MaxInt) {
		if e, ok := x.Entry(i); ok || !wire.SameEntry(e, api.Entry{}) {
			t.Errorf("P1501: a new core: Entry(%d): %+v", i, e)
		}
	}
}

// P1501: one member leads behind 20 ticks, whatever the draws, and commits at once; one that is none never stands.
func TestOneMember(t *testing.T) {
	for id := range 9 {
		for _, draw := range list(0, 9, 7*id, -1, math.MinInt, math.MaxInt) {
			x, other := newCore(t, id, 5, id), newCore(t, id, 5, (id+1)%9)
			for range 20 {
				x.Tick(draw)
				other.Tick(draw)
			}
			if x.Role() != api.Leader || x.Term() < 1 || x.Commit() != 5 {
				t.Fatalf("P1501: core %d, draw %d: role %d, term %d", id, draw, x.Role(), x.Term())
			}
			if other.Role() != api.Follower || other.Term() != 0 || len(other.Out()) > 0 {
				t.Fatalf("P1501: core %d is no member: role %d, term %d", id, other.Role(), other.Term())
			}
			for seq := range 3 {
				e := api.Entry{Kind: api.KData, Client: 1, Seq: seq + 1}
				index, errno := x.Propose(e)
				if at, ok := x.Entry(index); errno != api.OK || index != 6+seq || !ok || !wire.SameEntry(at, e) || x.Commit() != index {
					t.Fatalf("P1502: core %d: Propose: %d, %v, commit %d", id, index, errno, x.Commit())
				}
			}
		}
	}
}

// P1501: one member that hands on to another one ends its instance at once; the other one leads behind 20 ticks of its own, and so on.
func TestOneByOne(t *testing.T) {
	g := newGroup(t, 9, 2, 0)
	for k := range 12 {
		id, next := k%9, (k+1)%9
		x := g.cores[id]
		for range 20 {
			g.tick(id, 9)
		}
		if x.Role() != api.Leader || x.Instances() != k+1 {
			t.Fatalf("P1501: core %d: role %d, %d instances, not %d", id, x.Role(), x.Instances(), k+1)
		}
		g.must(id, g.data())
		g.must(id, g.change(next))
		if x.Instances() != k+2 || x.Commit() != 4+2*k || x.Role() != api.Follower || x.Sealed() || !conf.Same(x.Config(), api.Config{New: list(next)}) {
			t.Fatalf("P1501: core %d: %d instances, commit %d, role %d, %v", id, x.Instances(), x.Commit(), x.Role(), x.Config())
		}
		g.flow()
		if y := g.cores[next]; y.Instances() != k+2 || y.Commit() != x.Commit() {
			t.Fatalf("P1501: core %d: %d instances, commit %d", next, y.Instances(), y.Commit())
		}
	}
	g.calm()
}

// Example 1: a KConf committed at 3: Instances 2, and what comes at 4 is decided by its Members: without the elder ones, and not by these.
func TestExample(t *testing.T) {
	for _, elder := range []bool{false, true} {
		g := newGroup(t, 6, 0, 0, 1, 2)
		g.calm()
		g.checkGoes(g.data())
		g.checkGoes(g.data())
		g.checkGoes(g.change(3, 4))
		for id, x := range g.cores {
			if e, _ := x.Entry(3); x.Instances() != 2 || e.Kind != api.KConf || !conf.Same(x.Config(), api.Config{New: list(3, 4)}) {
				t.Fatalf("P1501: core %d: %d instances, at 3 %+v, %v", id, x.Instances(), e, x.Config())
			}
		}
		id := g.calm()
		side := list(3, 4)
		if elder {
			side = list(0, 1, 2, 5, id)
		}
		g.only(side...)
		e := g.data()
		if index := g.must(id, e); index != 4 {
			t.Errorf("P1502: %d", index)
		}
		g.rounds(60)
		if at, ok := g.cores[id].Entry(4); ok == elder || ok && !wire.SameEntry(at, e) {
			t.Errorf("P1503: among %v: at 4 %+v, %v", side, at, ok)
		}
		if len(g.all) != 3 && elder {
			t.Errorf("P1503: %d are committed", len(g.all))
		}
	}
}

// P1501, P1503: members are handed on till none of the first ones is left, and back to them; at each step it goes on, and all cores come to know all of it.
func TestHandedOn(t *testing.T) {
	for _, base := range list(0, 9) {
		g := newGroup(t, 9, base, 0, 1, 2)
		g.calm()
		for k, members := range [][]int{{1, 2, 3}, {2, 3, 4}, {3, 4, 5, 6, 7}, {6}, {6, 8}, upTo(7), {7, 8}, {0, 1}, {0, 1, 2}} {
			g.checkGoes(g.data())
			id := g.handOn(members...)
			x := g.cores[id]
			if x.Instances() != k+2 || x.Commit() != base+3*k+2 || !slices.Contains(members, id) || !conf.Same(x.Config(), api.Config{New: members}) {
				t.Fatalf("P1501: %d leads: %d instances, commit %d, %v", id, x.Instances(), x.Commit(), x.Config())
			}
			g.checkGoes(g.data())
			g.load(id)
			if g.cores[id].Instances() != k+2 {
				t.Fatalf("P1501: %d instances are loaded", g.cores[id].Instances())
			}
			g.calm()
		}
	}
}

// P1501, P1503: an ordinary group elects one, which keeps leading while it is heard, in its first instance and in the next one, of any number of members.
func TestOrdinary(t *testing.T) {
	for count := 1; count <= 7; count++ {
		g := newGroup(t, 9, 3, upTo(count)...)
		for k, members := range [][]int{upTo(count), upTo(9)[9-count:]} {
			id := g.calm()
			term := g.cores[id].Term()
			for range 10 {
				g.checkGoes(g.data())
			}
			if g.leader() != id || g.cores[id].Term() != term || g.cores[id].Commit() != 13+11*k {
				t.Errorf("P1503: %d members: %d led by %d, now %d by %d; commit %d", count, id, term, g.leader(), g.cores[g.leader()].Term(), g.cores[id].Commit())
			}
			if !slices.Contains(members, id) {
				t.Errorf("P1503: %d leads, of %v", id, members)
			}
			if k == 0 {
				g.checkGoes(g.change(upTo(9)[9-count:]...))
			}
		}
	}
}

// P1503: where the one that leads is gone, another one does; when it is back, it follows; in the first instance and in a later one.
func TestAnotherLeads(t *testing.T) {
	for count := 3; count <= 7; count += 2 {
		g := newGroup(t, 9, 0, upTo(count)...)
		g.calm()
		for k := range 2 {
			first := g.leader()
			g.checkGoes(g.data())
			was := g.cores[first].Commit()
			g.apart(first)
			g.must(first, g.data()) // nobody hears of it
			g.rounds(60)
			if g.cores[first].Role() != api.Leader || g.cores[first].Commit() != was {
				t.Errorf("P1503: core %d alone: role %d, commit %d", first, g.cores[first].Role(), g.cores[first].Commit())
			}
			next := -1
			for id, x := range g.cores {
				if id != first && x.Role() == api.Leader {
					next = id
				}
			}
			if next < 0 || g.cores[next].Term() <= g.cores[first].Term() {
				t.Fatalf("P1503: nobody leads behind %d", first)
			}
			index := g.must(next, g.data())
			g.rounds(10)
			if id := g.calm(); id == first || g.cores[first].Commit() != index {
				t.Errorf("P1503: %d leads; core %d: commit %d", id, first, g.cores[first].Commit())
			}
			if k == 0 {
				g.handOn(upTo(9)[9-count:]...)
			}
		}
	}
}

// P1503: without a quorum of the last instance's members nothing is committed, and nobody new leads there, however many elder ones are up.
func TestNoQuorum(t *testing.T) {
	for _, members := range [][]int{{7, 8}, {1, 7, 8}, {1, 4, 7, 8}, {4, 5, 6, 7, 8}, {0, 2, 4, 5, 6, 7, 8}} {
		g := newGroup(t, 9, 2, 0, 1, 2, 3)
		g.calm()
		id := g.handOn(members...)
		g.checkGoes(g.data())
		was := len(g.all)
		few := slices.DeleteFunc(slices.Clone(members), func(member int) bool { return member == id })[:len(members)/2-1]
		side := append(few, id)
		for other := range 9 {
			if !slices.Contains(members, other) {
				side = append(side, other)
			}
		}
		g.only(side...)
		g.must(id, g.data())
		g.rounds(80)
		g.load(id)
		g.rounds(80)
		if len(g.all) != was || g.cores[id].Role() == api.Leader {
			t.Errorf("P1503: of %v only %v hear each other: %d more are committed", members, side, len(g.all)-was)
		}
	}
}

// P1501: a term of a later instance is above all of elder ones, whatever these came to; it does not fall.
func TestTerms(t *testing.T) {
	g := newGroup(t, 5, 0, 0, 1, 2)
	id := g.calm()
	for _, members := range [][]int{{2, 3, 4}, {0}, {0, 1, 2}} {
		for range 10 { // some more ballots
			g.load(id)
			id = g.calm()
		}
		elder := g.cores[id].Term()
		g.checkGoes(g.change(members...))
		for at, x := range g.cores {
			if x.Term() <= elder || x.Term() >= 1<<40 {
				t.Errorf("P1501: core %d: term %d behind %d", at, x.Term(), elder)
			}
		}
		id = g.calm()
	}
	if len(g.led) < 30 {
		t.Errorf("only %d terms had one that led", len(g.led))
	}
}

// P1501: a member of no instance that it knows of never stands; when it comes to be one it may lead; when it is one no more it stands no more.
func TestComesAndGoes(t *testing.T) {
	g := newGroup(t, 4, 0, 0, 1, 2)
	idle := func(id int) {
		t.Helper()
		term := g.cores[id].Term()
		for range 100 {
			g.cores[id].Tick(3)
		}
		if g.cores[id].Role() != api.Follower || g.cores[id].Term() != term {
			t.Fatalf("P1501: core %d is no member: role %d", id, g.cores[id].Role())
		}
		g.settle(id)
		g.net = nil
	}
	idle(3)
	g.calm()
	g.checkGoes(g.data())
	idle(3)
	g.handOn(1, 2, 3)
	idle(0)
	g.leads(3)
	g.flow()
	g.checkGoes(g.data())
	g.handOn(0, 1)
	idle(3)
	idle(2)
	g.leads(0)
	g.calm()
	g.checkGoes(g.data())
}

// P7: two cores are nobody else's: what is done to one is not to be seen at another.
func TestTwoCores(t *testing.T) {
	members := list(0)
	x, y := newCore(t, 0, 0, members...), newCore(t, 0, 0, members...)
	was := y.Save()
	for range 30 {
		x.Tick(3)
	}
	x.Propose(change(0, 1))
	x.Propose(letters("a")[0])
	b := x.Save()
	one, _ := Load(0, b)
	other, _ := Load(0, b)
	one.Step(api.Msg{From: 1, To: 0, Kind: 1, Term: 1<<ballotBits + 1, Index: 1, Commit: 1})
	if x.Commit() != 1 || x.Instances() != 2 || !slices.Equal(y.Save(), was) || y.Role() != api.Follower || y.Instances() != 1 || len(y.Out()) > 0 {
		t.Errorf("P7: commit %d; the other one: role %d", x.Commit(), y.Role())
	}
	if one.Term() == other.Term() || !slices.Equal(other.Save(), b) || !slices.Equal(x.Save(), b) || len(other.Out()) > 0 {
		t.Errorf("P7: of what was loaded twice: terms %d, %d", one.Term(), other.Term())
	}
}
