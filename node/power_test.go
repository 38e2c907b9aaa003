package node

import (
	"slices"
	"testing"

	"synodal/api"
	"synodal/engine"
	"synodal/wire"
)

// checkDead says that a node whose power is gone, or was, answers ErrDead to all that answers an error, ahead of all other errors, and sends nothing; what it tells is what it told.
func checkDead(t *testing.T, n *Node, id int) {
	t.Helper()
	commit, read, gens := n.Commit(), n.Read(), n.Gens()
	for range 2 {
		for _, draw := range list(-1, 0, 9) {
			if e := n.Tick(draw); e != api.ErrDead {
				t.Fatalf("P2002: a dead node: Tick: %v", e)
			}
		}
		for _, m := range []api.Msg{{}, {To: id}, {To: id + 1}, {From: id, To: id}, {From: (id + 1) % 9, To: id, Gen: 1, Kind: 1, Term: 1}} {
			if e := n.Step(m); e != api.ErrDead {
				t.Fatalf("P2002: a dead node: Step(%+v): %v", m, e)
			}
		}
		for _, e := range []api.Entry{{}, {Kind: api.KData}, {Kind: api.KData, Client: 1, Seq: 1}, {Kind: api.KData, Client: 7, Seq: 700}} {
			if errno := n.Call(e); errno != api.ErrDead {
				t.Fatalf("P2002: a dead node: Call(%+v): %v", e, errno)
			}
		}
		for _, l := range [][]int{{0, 0}, {1, 1}, {-1, 5}, {7, 700}} {
			if at, e := n.Place(l[0], l[1]); at != 0 || e != api.ErrDead {
				t.Fatalf("P2002: a dead node: Place(%v): %d, %v", l, at, e)
			}
		}
		if out := n.Out(); len(out) > 0 {
			t.Fatalf("P2002: a dead node sends %+v", out)
		}
	}
	if n.Commit() != commit || !slices.EqualFunc(n.Read(), read, wire.SameEntry) || !slices.EqualFunc(n.Gens(), gens, sameGeneration) {
		t.Fatalf("P2002: a dead node: what it told is now %d, %+v", n.Commit(), n.Gens())
	}
}

// P2002: a node whose power went while it did nothing is dead, and what it had to send yet is not sent; so it is when the power is there again.
func TestPowerGone(t *testing.T) {
	for _, kind := range kinds() {
		w := newWorld(t, 3, kind, 0, 1, 2)
		w.calm()
		w.goes(w.data())
		id := w.leader()
		n := w.nodes[id]
		e := w.data()
		w.asked = append(w.asked, e)
		if errno := n.Call(e); errno != api.OK || len(n.out) == 0 {
			t.Fatalf("%v, and it has nothing to send", errno)
		}
		w.tapes[id].Stop(1)
		w.tapes[id].Sync()
		leads := n.Leads()
		checkDead(t, n, id)
		if n.Leads() != leads {
			t.Error("P5: calls that answered an error changed something")
		}
		w.tapes[id].Crash(0)
		checkDead(t, n, id)
		w.reopen(id, 0)
		w.calm()
		w.goes(w.data())
	}
}

// busy lets three nodes, the third of which is no member at first, do a bit of everything; it ends when nobody leads that would take anything.
func (w *world) busy() {
	w.t.Helper()
	kind := w.first.Engine
	w.rounds(40)
	for _, e := range []api.Entry{
		w.data(), w.change(0, 1, 2), w.data(), w.migrate(3 - kind), w.data(), w.change(0, 2), w.migrate(kind), w.data(),
	} {
		for id, n := range w.nodes {
			if n.Leads() && !w.tapes[id].Dead() {
				w.call(id, e)
			}
		}
		w.rounds(40)
	}
}

// P2002, P2001, W7, T3: the power goes at each operation of a node, within Tick, Step, or Call: that call answers ErrDead, and whatever front of bytes stays, the node is what it told when it is opened, and goes on.
func TestPowerGoes(t *testing.T) {
	within := map[string]int{}
	for _, kind := range kinds() {
		for id := range 3 {
			for stop := 1; ; stop++ {
				w := newWorld(t, 3, kind, 0, 1)
				w.within = within
				w.tapes[id].Stop(stop)
				w.busy()
				if !w.tapes[id].Dead() {
					if stop < 18 {
						t.Errorf("hardly asked: node %d writes %d times", id, stop)
					}
					break
				}
				checkDead(t, w.nodes[id], id)
				w.reopen(id, stop)
				w.calm()
				w.goes(w.data())
			}
		}
	}
	for _, call := range []string{"Tick", "Step", "Call"} {
		if within[call] < 6 {
			t.Errorf("hardly asked: %v", within)
		}
	}
}

// P2002: what an engine did beyond what lasts counts for nothing: a single member that would lead by a Tick, but can't save it, does not.
func TestPowerGoesWithinTick(t *testing.T) {
	for _, kind := range kinds() {
		w := newWorld(t, 1, kind, 0)
		w.tapes[0].Stop(1)
		n := w.nodes[0]
		saved := n.engine.Save()
		for !w.tapes[0].Dead() {
			if e := n.Tick(0); e == api.OK == w.tapes[0].Dead() {
				t.Fatalf("P2002: Tick: %v, the power is gone: %v", e, w.tapes[0].Dead())
			}
		}
		if n.Leads() || n.Commit() != 0 || !slices.Equal(n.engine.Save(), saved) {
			t.Errorf("W7: it leads: %v, and its engine is another one than on the tape", n.Leads())
		}
		checkDead(t, n, 0)
	}
}

// P2002: where the power goes within a Call that would commit at once, nothing is told of it; where it does not, all of it is.
func TestPowerGoesWithinCall(t *testing.T) {
	for _, kind := range kinds() {
		for _, what := range list(api.KData, api.KMigrate) {
			w := newWorld(t, 1, kind, 0)
			w.rounds(20)
			e := w.data()
			if what == api.KMigrate {
				e = w.migrate(3 - kind)
			}
			w.tapes[0].Stop(1)
			if errno := w.call(0, e); errno != api.ErrDead || w.nodes[0].Commit() != 0 || w.nodes[0].Gen().N != 1 {
				t.Errorf("P2002: the power goes: %v, and %d are committed", errno, w.nodes[0].Commit())
			}
			checkDead(t, w.nodes[0], 0)
			w.reopen(0, 0)
			w.calm()
			w.goes(e)
		}
	}
}

// P2002: a tape that has room enough for a node to begin, but no more, lets nothing be told that does not last.
func TestNoRoom(t *testing.T) {
	for _, kind := range kinds() {
		w := newWorld(t, 1, kind, 0)
		w.tapes[0] = tapeFor(t, len(w.tapes[0].Bytes())+60)
		n := newNode(t, w.tapes[0], 0, w.first)
		saved := n.engine.Save()
		for w.seqs[1] < 60 && n.Tick(0) == api.OK {
			saved = n.engine.Save()
			if e := n.Call(w.data()); e == api.OK {
				saved = n.engine.Save()
			}
		}
		if n.Call(w.data()) != api.ErrDead || n.Tick(0) != api.ErrDead || len(n.Out()) > 0 || !slices.Equal(n.engine.Save(), saved) {
			t.Errorf("W7: behind %d calls", w.seqs[1])
		}
		if o := open(t, w.tapes[0], 0); o.Commit() != n.Commit() || !slices.Equal(o.engine.Save(), saved) {
			t.Errorf("W7: %d are committed, on the tape %d", n.Commit(), o.Commit())
		}
	}
}

// P2002: a node ticks, is told, and asks, as its engine is, whatever the draws; with its own word it says no more than how much it knows.
func TestRunsItsEngine(t *testing.T) {
	for _, kind := range kinds() {
		sent := 0
		for seed := range 12 {
			x := picks(seed)
			w := newWorld(t, 3, kind, 0, 1, 2)
			var engines []*engine.Engine
			for id := range w.nodes {
				engines = append(engines, engineOf(t, id, w.first))
			}
			check := func(id int, out []api.Msg) {
				for _, m := range w.nodes[id].Out() {
					w.net = append(w.net, m)
					if m.Kind >= greeting {
						continue
					}
					if sent++; len(out) == 0 || !wire.SameMsg(bare(m), out[0]) {
						t.Fatalf("P2002: node %d sends %+v, its engine %+v", id, m, out)
					}
					out = out[1:]
				}
				if len(out) > 0 || !slices.Equal(engines[id].Save(), w.nodes[id].engine.Save()) || engines[id].Role() != w.nodes[id].engine.Role() {
					t.Fatalf("P2002: node %d is not what its engine is; that sends %+v", id, out)
				}
			}
			for range 600 {
				id := x.next(3)
				draw := list(-1<<63, -7, 0, 3, 9, 10, 1<<40, 1<<63-1)[x.next(8)]
				w.nodes[id].Tick(draw)
				engines[id].Tick(draw)
				check(id, engines[id].Out())
				if e := w.data(); x.next(20) == 0 {
					_, want := engines[id].Propose(e)
					if got := w.nodes[id].Call(e); got != want {
						t.Fatalf("P2002: Call: %v, its engine: %v", got, want)
					}
					check(id, engines[id].Out())
				}
				for range x.next(6) {
					if len(w.net) == 0 {
						continue
					}
					m := w.net[0]
					w.net = w.net[1:]
					if !slices.Contains(list(0, 1, 2), m.To) || x.next(20) == 0 {
						continue
					}
					w.nodes[m.To].Step(m)
					if m.Kind < greeting {
						engines[m.To].Step(bare(m))
					}
					check(m.To, engines[m.To].Out())
				}
			}
		}
		if sent < 2000 {
			t.Errorf("hardly asked: %d messages", sent)
		}
	}
}
