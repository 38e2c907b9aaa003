package raft

import (
	"slices"
	"strconv"
	"testing"

	"synodal/api"
	"synodal/wire"
)

// picks is a row of numbers that hang on a first one.
type picks uint64

func (x *picks) next(count int) int {
	*x = *x*6364136223846793005 + 1442695040888963407
	return int(uint64(*x)>>33) % count
}

// members picks some of so many nodes.
func (x *picks) members(count int) []int {
	for {
		var out []int
		for id := range count {
			if x.next(2) == 0 {
				out = append(out, id)
			}
		}
		if len(out) > 0 && len(out) <= api.MaxMembers {
			return out
		}
	}
}

// script is how often what is done, and how many cores do it.
type script struct {
	cores, base, steps                                        int
	ticks, deliveries, losses, doubles, loads, halts, entries int
	changes, migrations                                       int // of a hundred entries
	sides                                                     int // at every how many steps the net is parted anew; 0: never
}

// drawn is some script.
func drawn(x *picks) script {
	return script{
		cores: 1 + x.next(9), base: x.next(12), steps: 200 + x.next(800),
		ticks: 3 + x.next(8), deliveries: 15 + x.next(40), losses: x.next(6), doubles: x.next(4),
		loads: x.next(3), halts: x.next(2), entries: 2 + x.next(4),
		changes:    []int{0, 10, 40, 80}[x.next(4)],
		migrations: []int{0, 0, 0, 4}[x.next(4)],
		sides:      []int{0, 60, 150}[x.next(3)],
	}
}

// play does a script by draws.
func (g *group) play(x *picks, s script) {
	g.t.Helper()
	for step := range s.steps {
		if s.sides > 0 && step%s.sides == s.sides-1 {
			g.lost = nil
			if x.next(3) > 0 {
				g.apart(x.members(max(2, s.cores))...)
			}
		}
		g.act(x, s)
		for len(g.net) > 150 {
			k := x.next(len(g.net))
			g.net = slices.Delete(g.net, k, k+1)
		}
	}
	g.lost = nil
}

// act does one thing.
func (g *group) act(x *picks, s script) {
	g.t.Helper()
	id, k := x.next(len(g.cores)), 0
	if len(g.net) > 0 {
		k = x.next(min(len(g.net), 1+x.next(40)))
	}
	what := x.next(s.ticks + s.loads + s.halts + s.entries + s.deliveries + s.losses + s.doubles)
	for i, share := range []int{s.ticks, s.loads, s.halts, s.entries, s.deliveries, s.losses, s.doubles} {
		if what -= share; what >= 0 {
			continue
		}
		switch {
		case i == 0:
			for range 1 + x.next(6) {
				g.tick(id, x.next(10))
			}
		case i == 1:
			g.load(id)
		case i == 2:
			g.halt(x, id)
		case i == 3:
			g.request(x, s, id)
		case len(g.net) == 0:
		case i == 4:
			g.deliver(k)
		case i == 5:
			g.net = slices.Delete(g.net, k, k+1)
		case i == 6:
			g.net = append(g.net, g.net[k])
		}
		return
	}
}

// halt lets a core do something, and begin from what it had saved ahead of that: nothing was sent, nothing was told.
func (g *group) halt(x *picks, id int) {
	g.t.Helper()
	c := g.cores[id]
	for range 1 + x.next(4) {
		c.Tick(x.next(10))
		for _, m := range g.net {
			if m.To == id && x.next(3) == 0 {
				c.Step(m)
			}
		}
		c.Propose(g.data())
	}
	g.load(id)
}

// request hands an entry to a core, mostly to one that leads.
func (g *group) request(x *picks, s script, id int) {
	g.t.Helper()
	for other, c := range g.cores {
		if c.Role() == api.Leader && x.next(3) > 0 {
			id = other
		}
	}
	e := g.data()
	switch what := x.next(100); {
	case what < s.changes:
		e = g.change(x.members(len(g.cores))...)
	case what < s.changes+s.migrations:
		e = g.migrate()
	}
	g.propose(id, e)
}

// few says whether no log has more than 40 entries.
func (g *group) few() bool {
	return !slices.ContainsFunc(g.cores, func(x *Core) bool { return lastOf(x, g.base) > 40 })
}

// P1205, P1206: whatever is lost, doubled, late, halted, loaded, changed; behind that, whether messages are still under way or not, it goes on.
func TestScripts(t *testing.T) {
	committed, quiet, changes, seals := 0, 0, 0, 0
	for seed := range 400 {
		x := picks(seed)
		s := drawn(&x)
		g := newGroup(t, s.cores, s.base, x.members(s.cores)...)
		g.play(&x, s)
		committed += len(g.all)
		if !g.few() {
			continue
		}
		quiet++
		if x.next(2) == 0 {
			g.net = nil
		}
		id := g.calm()
		for _, e := range g.all {
			if e.Kind == api.KDone {
				changes++
			}
		}
		if g.cores[id].Sealed() {
			seals++
			continue
		}
		g.checkGoes(g.data())
		g.checkCalm()
	}
	if committed < 2000 || quiet < 300 || changes < 200 || seals < 10 {
		t.Errorf("too little is asked: %d committed, %d quiet, %d changes, %d seals", committed, quiet, changes, seals)
	}
}

// P1206: as TestScripts, of three members of five, and of changes among few: small quorums are those that spoil each other's bids.
func TestScriptsOfFew(t *testing.T) {
	for seed := range 300 {
		x := picks(1000 + seed)
		s := drawn(&x)
		s.cores, s.changes, s.migrations = 2+x.next(3), 60, 0
		g := newGroup(t, s.cores, s.base, 0)
		g.play(&x, s)
		if g.few() {
			g.calm()
			g.checkGoes(g.data())
			g.checkCalm()
		}
	}
}

// P1206: wherever the clocks stand: one has the newest log, without which nobody leads; the others' bids must not spoil its own for good.
func TestClocks(t *testing.T) {
	for seed := range 150 {
		x := picks(seed)
		g := newGroup(t, 9, 0, 7)
		g.leads(7)
		g.only(7)
		for range 1 + x.next(3) {
			g.propose(7, g.data())
		}
		g.must(7, g.change(list(0, 1, 2, 4, 5, 6, 8)[x.next(5):]...))
		for id := range 7 { // each has some front of it
			g.only(7, id)
			g.rounds(x.next(2) * 5)
			g.only(7)
			g.propose(7, g.data())
		}
		for id := range g.cores {
			for range x.next(40) {
				g.tick(id, 7*id%10)
			}
		}
		g.calm()
		g.checkGoes(g.data())
	}
}

// P3: the same calls in the same order answer the same.
func TestTwice(t *testing.T) {
	for seed := range 20 {
		var ends []string
		for range 2 {
			x := picks(seed)
			s := drawn(&x)
			g := newGroup(t, s.cores, s.base, x.members(s.cores)...)
			g.play(&x, s)
			end := ""
			for id, c := range g.cores {
				end += strconv.Itoa(c.Role()) + string(g.saved[id])
			}
			for _, m := range g.net {
				b, _ := wire.EncodeMsg(m)
				end += string(b)
			}
			ends = append(ends, end)
		}
		if ends[0] != ends[1] {
			t.Errorf("seed %d: the same script ends in two ways", seed)
		}
	}
}
