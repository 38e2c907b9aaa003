package node

import (
	"slices"
	"testing"

	"synodal/api"
	"synodal/core"
	"synodal/spec"
	"synodal/wire"
)

// picks is a row of numbers that hang on a first one.
type picks uint64

func (x *picks) next(count int) int {
	*x = *x*6364136223846793005 + 1442695040888963407
	return int(uint64(*x)>>33) % count
}

// from is a row of its own for each seed.
func from(seed int) *picks {
	x := picks(seed * 7919)
	for range 8 {
		x.next(2)
	}
	return &x
}

// members picks some of so many nodes.
func (x *picks) members(count int) []int {
	for {
		var out []int
		for id := range count {
			if x.next(2) == 0 {
				out = append(out, id)
			}
		}
		if len(out) > 0 && len(out) <= api.MaxMembers {
			return out
		}
	}
}

// script is how often what is done, and how many nodes do it.
type script struct {
	nodes, steps     int
	lost, doubled    int // of a hundred messages
	crashes, stops   int // of a thousand steps
	asked            int // of a hundred steps
	changes, seals   int // of a thousand requests
	sides            int // at every how many steps the net is parted anew; 0: never
	alive, flow, few int // how many of ten nodes tick in a step; how many messages are delivered then; with how many entries no more is asked
}

// drawn is some script.
func drawn(x *picks) script {
	return script{
		nodes: 1 + x.next(9), steps: 100 + x.next(400),
		lost: x.next(4) * x.next(10), doubled: x.next(5),
		crashes: x.next(3) * 6, stops: x.next(3) * 6,
		asked:   10 + x.next(40),
		changes: []int{0, 100, 300, 500}[x.next(4)],
		seals:   []int{30, 150, 300, 500}[x.next(4)],
		sides:   []int{0, 40, 90}[x.next(3)],
		alive:   1 + x.next(10), flow: 3 + x.next(100), few: []int{36, 36, 70}[x.next(3)],
	}
}

// play does a script by draws.
func (w *world) play(x *picks, s script) {
	w.t.Helper()
	for step := range s.steps {
		if s.sides > 0 && step%s.sides == s.sides-1 {
			w.lost = nil
			if x.next(3) > 0 {
				w.apart(x.members(max(2, s.nodes))...)
			}
		}
		for id := range w.nodes {
			if x.next(10) < s.alive {
				w.tick(id, x.next(10))
			}
		}
		w.carry(x, s)
		if x.next(100) < s.asked && len(w.all) < s.few {
			w.ask(x, s, x.next(s.nodes))
		}
		w.fail(x, s)
		w.watch(x.next(s.nodes))
	}
	w.lost = nil
}

// carry delivers messages, loses and doubles some; what piles up is lost.
func (w *world) carry(x *picks, s script) {
	w.t.Helper()
	for range s.flow {
		if len(w.net) == 0 {
			return
		}
		k := 0
		if x.next(3) == 0 {
			k = x.next(len(w.net))
		}
		switch what := x.next(100); {
		case what < s.lost:
			w.net = slices.Delete(w.net, k, k+1)
		case what < s.lost+s.doubled:
			w.net = append(w.net, w.net[k])
		default:
			w.deliver(k)
		}
	}
	w.net = w.net[max(0, len(w.net)-300):]
}

// ask asks a node for an entry, mostly one that leads, at times for one that was asked for ahead.
func (w *world) ask(x *picks, s script, id int) {
	w.t.Helper()
	for other, n := range w.nodes {
		if n.Leads() && x.next(3) > 0 {
			id = other
		}
	}
	var e api.Entry
	switch what := x.next(1000); {
	case len(w.asked) > 0 && x.next(5) == 0:
		e = w.asked[max(0, len(w.asked)-1-x.next(8))]
	case what < s.changes:
		e = w.change(x.members(len(w.nodes))...)
	case what < s.changes+s.seals:
		e = w.migrate(1 + x.next(2))
	default:
		e = w.data()
	}
	w.trace = append(w.trace, api.Event{Kind: api.TCall, Client: e.Client, Seq: e.Seq, Entry: e})
	w.call(id, e)
}

// fail lets nodes crash, and the power of some go at one of the next operations; who is dead is opened again by and by.
func (w *world) fail(x *picks, s script) {
	w.t.Helper()
	if x.next(1000) < s.crashes {
		w.reopen(x.next(s.nodes), x.next(100))
	}
	if x.next(1000) < s.stops {
		w.tapes[x.next(s.nodes)].Stop(1 + x.next(3))
	}
	for id, tape := range w.tapes {
		if tape.Dead() && x.next(20) == 0 {
			w.reopen(id, x.next(100))
		}
	}
}

// watch adds to the trace what a node tells, and where it tells a request to stand.
func (w *world) watch(id int) {
	w.t.Helper()
	n := w.nodes[id]
	read := n.Read()
	w.trace = append(w.trace, api.Event{Kind: api.TRead, Index: len(read), Entries: read})
	for _, e := range w.asked[max(0, len(w.asked)-3):] {
		if at, errno := n.Place(e.Client, e.Seq); errno == api.OK {
			w.trace = append(w.trace, api.Event{Kind: api.TDone, Client: e.Client, Seq: e.Seq, Index: at})
		}
	}
}

// heal gives all nodes their power.
func (w *world) heal(x *picks) {
	w.t.Helper()
	for id, tape := range w.tapes {
		tape.Stop(0)
		if tape.Dead() {
			w.reopen(id, x.next(100))
		}
	}
}

// fewStand says whether no more than 40 entries stand in any log.
func (w *world) fewStand() bool {
	return !slices.ContainsFunc(w.nodes, func(n *Node) bool {
		_, ok := n.engine.Entry(41)
		return ok || n.Commit() > 40
	})
}

// ended is a world behind some script that is drawn.
func ended(t *testing.T, x *picks) *world {
	t.Helper()
	s := drawn(x)
	w := newWorld(t, s.nodes, 1+x.next(2), x.members(s.nodes)...)
	w.play(x, s)
	return w
}

// P2005: whatever is lost, doubled, late, whoever crashes at whatever write, whoever the members are, and whichever engine is at work; and it goes on behind that.
func TestScripts(t *testing.T) {
	committed, seals, changes, quiet, looked := 0, 0, 0, 0, 0
	for seed := range 150 {
		x := from(seed)
		w := ended(t, x)
		for _, e := range w.all {
			switch e.Kind {
			case api.KMigrate:
				seals++
			case api.KConf:
				changes++
			}
		}
		committed += len(w.all)
		looked += w.looked
		w.heal(x)
		if w.fewStand() {
			quiet++
			if x.next(2) == 0 {
				w.net = nil
			}
			w.calm()
			e := w.data()
			w.trace = append(w.trace, api.Event{Kind: api.TCall, Client: e.Client, Seq: e.Seq, Entry: e})
			w.goes(e)
			w.checkCalm()
		}
		for id := range w.nodes {
			w.watch(id)
		}
		if at := spec.Check(w.trace); at >= 0 {
			t.Fatalf("T1, T2: seed %d: event %d may not be: %+v", seed, at, w.trace[at])
		}
		w.checkFronts()
	}
	if committed < 1500 || seals < 300 || changes < 150 || quiet < 100 || looked < 20000 {
		t.Errorf("hardly asked: %d committed, %d seals, %d changes, %d quiet, looked %d times", committed, seals, changes, quiet, looked)
	}
}

// checkFronts says that of any two nodes the one's visible log is a front of the other's (T1).
func (w *world) checkFronts() {
	w.t.Helper()
	for _, a := range w.nodes {
		for _, b := range w.nodes {
			if !spec.Fits(a.Read(), b.Read()) {
				w.t.Fatalf("T1: %+v does not fit %+v", a.Read(), b.Read())
			}
		}
	}
}

// P2005, T3: at each write of any node, the power of all goes at once, over and over: nothing that was told is lost.
func TestAllCrash(t *testing.T) {
	for _, kind := range kinds() {
		for seed := range 6 {
			x := from(seed)
			w := newWorld(t, 3, kind, 0, 1, 2)
			for round := range 12 {
				for _, tape := range w.tapes {
					tape.Stop(1 + x.next(12))
				}
				for range 60 {
					w.round()
					w.ask(x, script{changes: 100, seals: 300}, x.next(3))
				}
				was := len(w.all)
				for id := range w.nodes {
					w.reopen(id, round)
				}
				w.net = nil
				best := 0
				for _, n := range w.nodes {
					best = max(best, n.Commit())
				}
				if best != was {
					t.Fatalf("T2: %d entries were told to be committed, and %d are known", was, best)
				}
			}
			w.heal(x)
			if w.fewStand() {
				w.calm()
				w.goes(w.data())
			}
		}
	}
}

// P2005, T5: from the beginning on, in quiet rounds alone: one leads behind 120 of them, and an entry is answered within 60 more, for all numbers of nodes, all engines, and one migration behind the other.
func TestQuiet(t *testing.T) {
	for _, kind := range kinds() {
		for count := 1; count <= 9; count++ {
			members := core.Others(8)[:min(count, api.MaxMembers)]
			w := newWorld(t, count, kind, members...)
			for k := range 4 {
				w.calm()
				w.goes(w.data())
				w.goes(w.migrate(1 + k%2))
			}
			w.calm()
			w.goes(w.data())
		}
	}
}

// P3: the same calls in the same order answer the same, again, and beside other nodes.
func TestTwice(t *testing.T) {
	for seed := range 12 {
		var ends []string
		var beside *world
		for range 2 {
			x := from(seed)
			w := ended(t, x)
			end := ""
			for _, n := range w.nodes {
				end += state(n)
			}
			for _, m := range w.net {
				b, _ := wire.EncodeMsg(m)
				end += string(b)
			}
			ends = append(ends, end)
			if beside = newWorld(t, 3, api.Raft, 0, 1, 2); seed%2 == 0 {
				beside.play(from(seed+1000), script{nodes: 3, steps: 50, asked: 50, seals: 200, alive: 10, flow: 50, few: 30})
			}
		}
		if ends[0] != ends[1] {
			t.Errorf("P3: seed %d: the same script ends in two ways", seed)
		}
	}
}
