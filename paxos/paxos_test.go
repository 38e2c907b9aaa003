package paxos

import (
	"math"
	"slices"
	"testing"

	"synodal/api"
	"synodal/conf"
	"synodal/wire"
)

func list(numbers ...int) []int { return numbers }

// upTo is the nodes from 0 on, so many.
func upTo(count int) []int {
	var out []int
	for id := range count {
		out = append(out, id)
	}
	return out
}

// stands lets ticks go by till a core stands, once more if it did; it tells how many.
func stands(t *testing.T, x *Core, draw int) int {
	t.Helper()
	term := x.Term()
	for ticks := 1; ticks <= 20; ticks++ {
		x.Tick(draw)
		if x.Term() > term {
			return ticks
		}
	}
	t.Fatalf("core %d does not stand", x.id)
	return 0
}

// P1401: New's errors, in their order, and its bounds.
func TestNew(t *testing.T) {
	for _, c := range []struct {
		id      int
		members []int
		base    int
		want    api.Errno
	}{
		{0, list(0), 0, api.OK},
		{8, list(8), 64, api.OK},
		{8, list(1, 2), 5, api.OK},
		{3, upTo(7), 63, api.OK},
		{0, list(2, 3, 4, 5, 6, 7, 8), 0, api.OK},
		{-1, list(0), 0, api.ErrArg},
		{9, list(0), 0, api.ErrArg},
		{math.MinInt, list(0), 0, api.ErrArg},
		{math.MaxInt, list(0), 0, api.ErrArg},
		{0, list(0), -1, api.ErrArg},
		{0, list(0), 65, api.ErrArg},
		{0, list(0), math.MinInt, api.ErrArg},
		{0, list(0), math.MaxInt, api.ErrArg},
		{0, nil, 0, api.ErrNone},
		{0, list(), 0, api.ErrNone},
		{0, upTo(8), 0, api.ErrMany},
		{0, make([]int, 1000), 0, api.ErrMany},
		{0, list(-1), 0, api.ErrArg},
		{0, list(9), 0, api.ErrArg},
		{0, list(1, 1), 0, api.ErrArg},
		{0, list(2, 1), 0, api.ErrArg},
		{9, nil, 0, api.ErrArg},
		{0, nil, 65, api.ErrArg},
		{-1, upTo(8), 0, api.ErrArg},
		{0, upTo(8), -1, api.ErrArg},
	} {
		x, e := New(c.id, c.members, c.base)
		if e != c.want || (x == nil) != (e != api.OK) {
			t.Errorf("New(%d, %v, %d): %v, not %v", c.id, c.members, c.base, e, c.want)
		}
		if x != nil {
			checkFresh(t, x, c.members, c.base)
		}
	}
}

// checkFresh says that a core is as a new one.
func checkFresh(t *testing.T, x *Core, members []int, base int) {
	t.Helper()
	if x.Commit() != base || x.Role() != api.Follower || x.Term() != 0 || x.Sealed() || len(x.Out()) > 0 {
		t.Errorf("a new core: commit %d, role %d, term %d, sealed %v", x.Commit(), x.Role(), x.Term(), x.Sealed())
	}
	if c := x.Config(); !conf.Same(c, api.Config{New: members}) {
		t.Errorf("a new core: Config %v, not %v", c, members)
	}
	for _, i := range list(math.MinInt, -1, 0, base, base+1, 65, math.MaxInt) {
		if e, ok := x.Entry(i); ok || !wire.SameEntry(e, api.Entry{}) {
			t.Errorf("a new core: Entry(%d): %+v", i, e)
		}
	}
}

// P1401, example 1: one member leads behind 20 ticks, whatever the draws, and commits at once; one that is none never stands.
func TestOneMember(t *testing.T) {
	for id := range 9 {
		for _, draw := range list(0, 9, 7*id, -1, math.MinInt, math.MaxInt) {
			x, other := newCore(t, id, 5, id), newCore(t, id, 5, (id+1)%9)
			for range 20 {
				x.Tick(draw)
				other.Tick(draw)
			}
			if x.Role() != api.Leader || x.Term() < 1 || x.Commit() != 5 {
				t.Fatalf("core %d, draw %d: role %d, term %d", id, draw, x.Role(), x.Term())
			}
			if other.Role() != api.Follower || other.Term() != 0 || len(other.Out()) > 0 {
				t.Fatalf("core %d is no member: role %d, term %d", id, other.Role(), other.Term())
			}
			for seq := range 3 {
				e := api.Entry{Kind: api.KData, Client: 1, Seq: seq + 1}
				index, errno := x.Propose(e)
				if at, ok := x.Entry(index); errno != api.OK || index != 6+seq || !ok || !wire.SameEntry(at, e) || x.Commit() != index {
					t.Fatalf("core %d: Propose: %d, %v, commit %d", id, index, errno, x.Commit())
				}
			}
		}
	}
}

// P1401: a core whose wait is over stands: it is a Candidate of a newer ballot, and asks the other members; when its wait is over again, of a newer one yet.
func TestStands(t *testing.T) {
	x := newCore(t, 1, 0, 0, 1, 2)
	for range 3 {
		term := x.Term()
		ticks := stands(t, x, 4)
		if x.Role() != api.Candidate || x.Term() <= term || ticks < 10 || ticks > 19 {
			t.Fatalf("role %d, term %d behind %d ticks", x.Role(), x.Term(), ticks)
		}
		var asked []int
		for _, m := range x.Out() {
			checkSent(t, 1, m)
			asked = append(asked, m.To)
		}
		if !slices.Equal(asked, list(0, 2)) {
			t.Errorf("it asks %v", asked)
		}
	}
}

// P1401, P1403: no two cores have a ballot in common, whatever they have heard of; each ballot is above what was heard of.
func TestBallots(t *testing.T) {
	owner := map[int]int{}
	for heard := range 100 {
		for id := range 9 {
			b := above(heard, id)
			if who, ok := owner[b]; b <= heard || b > heard+9 || ok && who != id {
				t.Fatalf("core %d, which has heard of %d, has the ballot %d", id, heard, b)
			}
			owner[b] = id
		}
	}
}

// P1: where the numbers are at their end, nobody stands.
func TestBallotsEnd(t *testing.T) {
	for _, heard := range list(math.MaxInt, math.MaxInt-1) {
		x := newCore(t, 1, 0, 1)
		x.Step(api.Msg{From: 0, To: 1, Kind: taken, Term: heard})
		for range 100 {
			x.Tick(0)
		}
		if x.Role() != api.Follower || x.Term() != heard || len(x.Out()) > 0 {
			t.Errorf("role %d, term %d", x.Role(), x.Term())
		}
	}
}

// P1401, P1403: an ordinary group elects one, which keeps leading while it is heard; all cores come to know what it has committed; there are no fillers.
func TestOrdinary(t *testing.T) {
	for count := 1; count <= 7; count++ {
		g := newGroup(t, 9, 3, upTo(count)...)
		id := g.calm()
		term := g.cores[id].Term()
		for want := 4; want <= 13; want++ {
			g.checkGoes(g.data())
			if g.cores[id].Commit() != want {
				t.Fatalf("%d members: commit %d, not %d", count, g.cores[id].Commit(), want)
			}
		}
		if g.leader() != id || g.cores[id].Term() != term {
			t.Errorf("%d members: %d led by %d, now %d by %d", count, id, term, g.leader(), g.cores[g.leader()].Term())
		}
		for at, x := range g.cores { // who is no member takes entries, too
			if x.Commit() != 13 {
				t.Errorf("%d members: core %d: commit %d", count, at, x.Commit())
			}
		}
	}
}

// P1403: where the one that leads is gone, another one does; when it is back, it follows.
func TestAnotherLeads(t *testing.T) {
	for count := 3; count <= 7; count += 2 {
		g := newGroup(t, count, 0, upTo(count)...)
		first := g.calm()
		g.checkGoes(g.data())
		g.apart(first)
		g.must(first, g.data()) // nobody hears of it
		g.rounds(60)
		if g.cores[first].Role() != api.Leader || g.cores[first].Commit() != 1 {
			t.Errorf("core %d alone: role %d, commit %d", first, g.cores[first].Role(), g.cores[first].Commit())
		}
		next := -1
		for id, x := range g.cores {
			if id != first && x.Role() == api.Leader {
				next = id
			}
		}
		if next < 0 || g.cores[next].Term() <= g.cores[first].Term() {
			t.Fatalf("nobody leads behind %d", first)
		}
		index := g.must(next, g.data())
		g.rounds(10)
		if g.cores[next].Commit() != index {
			t.Errorf("commit %d, not %d", g.cores[next].Commit(), index)
		}
		if id := g.calm(); id == first || g.cores[first].Commit() != index {
			t.Errorf("%d leads; core %d: commit %d", id, first, g.cores[first].Commit())
		}
	}
}

// P1403: without a quorum nothing is committed, and nobody new leads.
func TestNoQuorum(t *testing.T) {
	for count, few := range map[int][]int{2: {0}, 3: {1}, 4: {1, 3}, 5: {0, 4}, 7: {1, 2, 6}} {
		g := newGroup(t, count, 2, upTo(count)...)
		for id := range count { // each of them leads once, with few others
			g.calm()
			g.checkGoes(g.data())
			was := len(g.all)
			side := append(slices.Clone(few[1:]), g.leader())
			g.only(side...)
			g.must(g.leader(), g.data())
			for range 50 {
				for other := range count {
					g.tick(other, (other+id)%10)
				}
				g.flow()
			}
			if len(g.all) != was {
				t.Fatalf("%d members, of which only %v hear each other: %d more are committed", count, side, len(g.all)-was)
			}
		}
	}
}

// P7: two cores are nobody else's: what is done to one is not to be seen at another.
func TestTwoCores(t *testing.T) {
	members := list(0)
	x, y := newCore(t, 0, 0, members...), newCore(t, 0, 0, members...)
	was := y.Save()
	for range 30 {
		x.Tick(3)
	}
	x.Propose(api.Entry{Kind: api.KData, Client: 1, Seq: 1})
	b := x.Save()
	one, _ := Load(0, b)
	other, _ := Load(0, b)
	for range 30 {
		one.Tick(3)
	}
	one.Propose(api.Entry{Kind: api.KData, Client: 1, Seq: 2})
	if x.Commit() != 1 || !slices.Equal(y.Save(), was) || y.Role() != api.Follower || len(y.Out()) > 0 {
		t.Errorf("commit %d; the other one: role %d", x.Commit(), y.Role())
	}
	if one.Commit() != 2 || !slices.Equal(other.Save(), b) || !slices.Equal(x.Save(), b) || other.Role() != api.Follower {
		t.Errorf("of what was loaded twice: commit %d, role %d", one.Commit(), other.Role())
	}
}
