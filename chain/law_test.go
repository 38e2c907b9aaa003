package chain

import (
	"slices"
	"strconv"
	"testing"

	"synodal/api"
	"synodal/wire"
)

// picks is a row of numbers that hang on a first one.
type picks uint64

func (x *picks) next(count int) int {
	*x = *x*6364136223846793005 + 1442695040888963407
	return int(uint64(*x)>>33) % count
}

// members picks some of so many nodes.
func (x *picks) members(count int) []int {
	for {
		var out []int
		for id := range count {
			if x.next(2) == 0 {
				out = append(out, id)
			}
		}
		if len(out) > 0 && len(out) <= api.MaxMembers {
			return out
		}
	}
}

// script is how often what is done, and how many cores do it.
type script struct {
	cores, base, steps                                        int
	ticks, deliveries, losses, doubles, loads, halts, entries int
	changes, seals                                            int // of a thousand entries
	sides                                                     int // at every how many steps the net is parted anew; 0: never
}

// drawn is some script.
func drawn(x *picks) script {
	return script{
		cores: 1 + x.next(9), base: x.next(12), steps: 200 + x.next(1800),
		ticks: 3 + x.next(8), deliveries: 15 + x.next(40), losses: x.next(6), doubles: x.next(4),
		loads: x.next(3), halts: x.next(2), entries: 2 + x.next(4),
		changes: []int{50, 250, 500, 900}[x.next(4)],
		seals:   []int{0, 0, 0, 30}[x.next(4)],
		sides:   []int{0, 60, 150}[x.next(3)],
	}
}

// play does a script by draws.
func (g *group) play(x *picks, s script) {
	g.t.Helper()
	for step := range s.steps {
		if s.sides > 0 && step%s.sides == s.sides-1 {
			g.lost = nil
			if x.next(3) > 0 {
				g.apart(x.members(max(2, s.cores))...)
			}
		}
		g.act(x, s)
		for len(g.net) > 150 {
			k := x.next(len(g.net))
			g.net = slices.Delete(g.net, k, k+1)
		}
	}
	g.lost = nil
}

// act does one thing.
func (g *group) act(x *picks, s script) {
	g.t.Helper()
	id, k := x.next(len(g.cores)), 0
	if len(g.net) > 0 {
		k = x.next(min(len(g.net), 1+x.next(40)))
	}
	what := x.next(s.ticks + s.loads + s.halts + s.entries + s.deliveries + s.losses + s.doubles)
	for i, share := range []int{s.ticks, s.loads, s.halts, s.entries, s.deliveries, s.losses, s.doubles} {
		if what -= share; what >= 0 {
			continue
		}
		switch {
		case i == 0:
			for range 1 + x.next(6) {
				g.tick(id, x.next(10))
			}
		case i == 1:
			g.load(id)
		case i == 2:
			g.halt(x, id)
		case i == 3:
			g.request(x, s, id)
		case len(g.net) == 0:
		case i == 4:
			g.deliver(k)
		case i == 5:
			g.net = slices.Delete(g.net, k, k+1)
		case i == 6:
			g.net = append(g.net, g.net[k])
		}
		return
	}
}

// halt lets a core do something, and begin from what it had saved ahead of that: nothing was sent, nothing was told.
func (g *group) halt(x *picks, id int) {
	g.t.Helper()
	c := g.cores[id]
	for range 1 + x.next(4) {
		c.Tick(x.next(10))
		for _, m := range g.net {
			if m.To == id && x.next(3) == 0 {
				c.Step(m)
			}
		}
		c.Propose(g.data())
		c.Propose(g.change(x.members(len(g.cores))...))
	}
	g.load(id)
}

// request hands an entry to a core, mostly to one that leads.
func (g *group) request(x *picks, s script, id int) {
	g.t.Helper()
	for other, c := range g.cores {
		if c.Role() == api.Leader && x.next(3) > 0 {
			id = other
		}
	}
	e := g.data()
	switch what := x.next(1000); {
	case what < s.changes:
		e = g.change(x.members(len(g.cores))...)
	case what < s.changes+s.seals:
		e = g.migrate()
	}
	g.propose(id, e)
}

// checkAsked says that nothing is committed that was not proposed, and nothing twice.
func (g *group) checkAsked() {
	g.t.Helper()
	for i, e := range g.all {
		asked := false
		for _, l := range g.given {
			asked = asked || slices.ContainsFunc(l, func(took given) bool { return wire.SameEntry(took.entry, e) })
		}
		if !asked || slices.ContainsFunc(g.all[:i], func(ahead api.Entry) bool { return wire.SameEntry(ahead, e) }) {
			g.t.Fatalf("P1503: at %d %+v is committed: asked for %v", g.base+1+i, e, asked)
		}
	}
}

// few says whether at no core more than 40 entries stand, what waits counted.
func (g *group) few() bool {
	return !slices.ContainsFunc(g.cores, func(x *Core) bool { return x.Commit()+g.waiting(x) > 40 })
}

// ended is a group behind some script that is drawn.
func ended(t *testing.T, x *picks) *group {
	t.Helper()
	s := drawn(x)
	g := newGroup(t, s.cores, s.base, x.members(s.cores)...)
	g.play(x, s)
	return g
}

// P1501, P1503: whatever is lost, doubled, late, halted, loaded, and handed on; behind that, whether messages are still under way or not, it goes on.
func TestScripts(t *testing.T) {
	committed, quiet, seals, terms, instances := 0, 0, 0, 0, 0
	for seed := range 400 {
		x := picks(seed)
		g := ended(t, &x)
		g.checkAsked()
		committed += len(g.all)
		terms += len(g.led)
		instances += slices.Max(g.instances)
		if !g.few() {
			continue
		}
		if x.next(2) == 0 {
			g.net = nil
		}
		if x.next(4) == 0 {
			g.loadAll()
		}
		quiet++
		id := g.calm()
		g.checkAsked()
		if g.cores[id].Sealed() {
			seals++
			continue
		}
		g.checkGoes(g.data())
		if len(g.cores) > 1 {
			g.checkGoes(g.change(g.others()...))
			g.calm()
		}
		g.checkAsked()
	}
	if committed < 3000 || quiet < 300 || seals < 15 || terms < 1800 || instances < 1000 {
		t.Errorf("too little is asked: %d committed, %d quiet, %d seals, %d led, %d instances", committed, quiet, seals, terms, instances)
	}
}

// others are members that are not those that there are, of cores that there are.
func (g *group) others() []int {
	if members := g.members(); len(members) > 1 {
		return members[1:]
	}
	return list(0, 1)
}

// P1503: wherever the clocks stand, whatever terms were heard of, whoever led, and whichever instances are known to whom: one leads behind 60 quiet rounds.
func TestClocks(t *testing.T) {
	for seed := range 150 {
		x := picks(seed)
		g := newGroup(t, 9, 0, x.members(9)...)
		for range 8 {
			g.only(x.members(9)...)
			for range 40 {
				g.tick(x.next(9), x.next(10))
				if len(g.net) > 0 {
					g.deliver(x.next(len(g.net)))
				}
			}
			for id, c := range g.cores {
				if c.Role() == api.Leader {
					g.propose(id, g.data())
					g.propose(id, g.change(x.members(9)...))
				}
			}
		}
		g.lost = nil
		g.rounds(60)
		g.checkCalm()
		g.checkGoes(g.data())
	}
}

// P3: the same calls in the same order answer the same.
func TestTwice(t *testing.T) {
	for seed := range 20 {
		var ends []string
		for range 2 {
			x := picks(seed)
			g := ended(t, &x)
			end := ""
			for id, c := range g.cores {
				end += strconv.Itoa(c.Role()) + string(g.saved[id])
			}
			for _, m := range g.net {
				b, _ := wire.EncodeMsg(m)
				end += string(b)
			}
			ends = append(ends, end)
		}
		if ends[0] != ends[1] {
			t.Errorf("seed %d: the same script ends in two ways", seed)
		}
	}
}
