package node

import (
	"slices"
	"testing"

	"synodal/api"
)

// checkAllKnow says that each node whose power is there knows all that is committed, and which generations there are.
func (w *world) checkAllKnow() {
	w.t.Helper()
	for id, n := range w.nodes {
		if !w.tapes[id].Dead() && n.Commit() != len(w.all) {
			w.t.Fatalf("P2004: node %d knows %d of %d entries, generation %+v", id, n.Commit(), len(w.all), n.Gen())
		}
	}
}

// halt lets the power of a node go.
func (w *world) halt(ids ...int) {
	w.t.Helper()
	for _, id := range ids {
		w.tapes[id].Stop(1)
		w.tapes[id].Sync()
		w.settle(id)
	}
}

// lead asks the one that leads, among those that are not away, for entries, till they are placed.
func (w *world) get(away int, l ...api.Entry) {
	w.t.Helper()
	for _, e := range l {
		for tries := 0; ; tries++ {
			lead := slices.IndexFunc(w.nodes, func(n *Node) bool { return n.Leads() && n.id != away })
			if lead >= 0 {
				if w.call(lead, e) == api.ErrIs {
					break
				}
			}
			if w.rounds(5); tries > 60 {
				w.t.Fatalf("T5: %+v is not placed", e)
			}
		}
	}
}

// P2004: whoever was away, member or not, over entries, a change of members, one migration, several, from either engine to either one, knows it all when it is back.
func TestAway(t *testing.T) {
	for _, kind := range kinds() {
		for away := range 6 {
			for what := range 6 {
				w := newWorld(t, 6, kind, 0, 1, 2, 3)
				w.calm()
				w.goes(w.data())
				w.apart(away)
				before := w.nodes[away].Commit()
				switch what {
				case 0:
					w.get(away, w.data(), w.data())
				case 1:
					w.get(away, w.change(1, 2, 3, 4, 5), w.data())
				case 2:
					w.get(away, w.migrate(3-kind))
				case 3:
					w.get(away, w.data(), w.migrate(kind), w.data())
				case 4:
					w.get(away, w.migrate(3-kind), w.data(), w.migrate(3-kind), w.migrate(kind), w.data())
				case 5:
					w.get(away, w.change(0, 2, 4, 5), w.migrate(3-kind), w.change(0, 1, 4, 5, 8), w.data(), w.migrate(kind))
				}
				if w.nodes[away].Commit() != before {
					t.Fatal("it was not away")
				}
				if what%2 == 0 {
					w.reopen(away, 0)
				}
				w.lost = nil
				w.rounds(20)
				w.checkAllKnow()
				w.calm()
				w.goes(w.data())
			}
		}
	}
}

// P2004: each of the nodes 0 to 8 is told, be it a member, one that never was, or one that is no more.
func TestEachIsTold(t *testing.T) {
	for _, kind := range kinds() {
		for _, members := range [][]int{{0, 1, 2}, {8}, {2, 3, 4, 5, 6, 7, 8}, {0, 4, 8}} {
			w := newWorld(t, 9, kind, members...)
			for _, e := range []api.Entry{w.data(), w.change(3), w.data(), w.migrate(3 - kind), w.change(4, 5, 6), w.data(), w.migrate(kind)} {
				w.calm()
				w.goes(e)
				w.checkAllKnow()
			}
		}
	}
}

// P2004: those who know tell it, though nobody can lead any more, though they are no members, and though they knew it in an elder life.
func TestToldWithoutLeader(t *testing.T) {
	for _, kind := range kinds() {
		for knows := range 8 {
			for _, seal := range []bool{false, true} {
				w := newWorld(t, 9, kind, 0, 1, 2)
				w.calm()
				w.goes(w.data())
				w.apart(8)
				w.goesBut8(w.data())
				if seal {
					w.goesBut8(w.migrate(3 - kind))
				}
				for id := range 8 {
					if id != knows {
						w.halt(id)
					}
				}
				w.net, w.lost = nil, nil
				if knows%2 == 0 {
					w.reopen(knows, 0)
				}
				w.rounds(20)
				w.checkAllKnow()
				if len(w.all) < 2 || w.nodes[8].Commit() != len(w.all) {
					t.Errorf("P2004: kind %d: node 8 knows %d of %d entries", kind, w.nodes[8].Commit(), len(w.all))
				}
			}
		}
	}
}

// goesBut8 lets the one that leads get an entry committed, and all nodes but 8 know it.
func (w *world) goesBut8(e api.Entry) {
	w.t.Helper()
	w.must(w.leader(), e)
	w.rounds(60)
	for id, n := range w.nodes {
		if _, errno := n.Place(e.Client, e.Seq); id < 8 && errno != api.OK {
			w.t.Fatalf("P2004: node %d: %v", id, errno)
		}
	}
}

// P2004: of members that can't come to a quorum one may know more than another, and tells it.
func TestToldByAMember(t *testing.T) {
	for _, kind := range kinds() {
		w := newWorld(t, 5, kind, 0, 1, 2, 3, 4)
		w.calm()
		w.goes(w.data())
		lead := w.leader()
		near, far := (lead+1)%5, (lead+2)%5
		w.apart(far)
		w.get(far, w.data(), w.data())
		w.rounds(30)
		for id := range w.nodes {
			if id != near && id != far {
				w.halt(id)
			}
		}
		w.net, w.lost = nil, nil
		if w.nodes[near].Commit() != len(w.all) || w.nodes[far].Commit() == len(w.all) {
			t.Fatal("both know it")
		}
		w.rounds(20)
		w.checkAllKnow()
	}
}

// P2004: where half of all messages are lost, or come twice, or late, whoever lacks something is told yet.
func TestToldThoughLost(t *testing.T) {
	for _, kind := range kinds() {
		for seed := range 10 {
			x := picks(seed*31 + 5)
			w := newWorld(t, 7, kind, 0, 1, 2)
			w.calm()
			w.apart(4, 5, 6)
			w.get(6, w.data(), w.migrate(3-kind), w.change(1, 2, 3), w.data(), w.migrate(kind), w.data())
			w.lost = func(api.Msg) bool { return x.next(2) == 0 }
			for range 100 {
				for id := range w.nodes {
					w.tick(id, x.next(10))
				}
				for range 60 {
					if len(w.net) == 0 {
						break
					}
					k := x.next(len(w.net))
					if x.next(5) == 0 {
						w.net = append(w.net, w.net[k])
					}
					w.deliver(k)
				}
			}
			w.checkAllKnow()
		}
	}
}

// P2004: nobody who knows nothing says anything of its own; who knows something greets all others, again and again.
func TestGreets(t *testing.T) {
	for _, kind := range kinds() {
		fresh := newNode(t, newTape(t), 5, generation(kind, 0, 1, 2))
		for range 100 {
			fresh.Tick(3)
		}
		if out := fresh.Out(); len(out) > 0 {
			t.Errorf("it knows nothing, and says %+v", out)
		}
		n := taught(t, kind, entry(api.KData, 1, 1), change(1, 2, 0, 2)).nodes[0]
		n.Out()
		var greeted [api.MaxNodes]int
		for range 100 {
			n.Tick(3)
			for _, m := range n.Out() {
				if m.Kind == greeting && m.Commit == 2 {
					greeted[m.To]++
				}
			}
		}
		for id, count := range greeted {
			if (count < 5) != (id == 0) || count > 50 {
				t.Errorf("P2004: in 100 ticks node %d is greeted %d times", id, count)
			}
		}
	}
}
