package node

import (
	"slices"
	"testing"

	"synodal/api"
	"synodal/wire"
)

// spare stands in the spare room of all that is handed in.
const spare = 4711

// roomy is a list of numbers with something in its spare room.
func roomy(numbers ...int) []int {
	return append(slices.Clone(numbers), spare, spare, spare)[:len(numbers)]
}

// whole is a list with its spare room.
func whole[E any](l []E) []E { return l[:cap(l)] }

// scrawl writes over lists of numbers and their spare room.
func scrawl(lists ...[]int) {
	for _, l := range lists {
		for i := range whole(l) {
			whole(l)[i] = -33
		}
	}
}

// scrawlEntries writes over entries, their members, and the spare room of all of these.
func scrawlEntries(l []api.Entry) {
	for i, e := range whole(l) {
		scrawl(e.Members)
		whole(l)[i] = api.Entry{Kind: -33, Client: -33, Seq: -33, Data: "scrawl", Members: list(-33), To: -33}
	}
}

// scrawlMsgs writes over messages, all their lists, and the spare room of all of these.
func scrawlMsgs(l []api.Msg) {
	for i, m := range whole(l) {
		scrawl(m.Terms, m.Config.Old, m.Config.New)
		scrawlEntries(m.Entries)
		whole(l)[i] = api.Msg{From: -33, Kind: -33, Terms: list(-33)}
	}
}

// scrawlGens writes over generations, their members, and the spare room of all of these.
func scrawlGens(l []api.Generation) {
	for i, g := range whole(l) {
		scrawl(g.Config.Old, g.Config.New)
		whole(l)[i] = api.Generation{N: -33, Engine: -33, Base: -33}
	}
}

// withRoom is a message in memory of its own, whose lists have something in their spare room.
func withRoom(m api.Msg) api.Msg {
	m.Terms, m.Config.Old, m.Config.New = roomy(m.Terms...), roomy(m.Config.Old...), roomy(m.Config.New...)
	var l []api.Entry
	for _, e := range m.Entries {
		e.Members = roomy(e.Members...)
		l = append(l, e)
	}
	m.Entries = append(l, api.Entry{Data: "spare", Members: roomy(7)}, api.Entry{Data: "spare"})[:len(l)]
	return m
}

// unfolded is a message with the spare room of its lists, as if that were of them, in memory of its own.
func unfolded(m api.Msg) api.Msg {
	m.Terms, m.Config.Old, m.Config.New = slices.Clone(whole(m.Terms)), slices.Clone(whole(m.Config.Old)), slices.Clone(whole(m.Config.New))
	m.Entries = slices.Clone(whole(m.Entries))
	for i := range m.Entries {
		m.Entries[i].Members = slices.Clone(whole(m.Entries[i].Members))
	}
	return m
}

// twins are worlds of the same nodes, to which the same is done: but to one all is handed in with spare room, and written over then, and so is all that it tells.
type twins struct {
	t           *testing.T
	plain, rude *world
}

// both lets a node do something in both worlds, and holds what it tells in the one against the other.
func (w *twins) both(id int, act func(n *Node, rude bool) api.Errno) {
	w.t.Helper()
	a, b := w.plain.nodes[id], w.rude.nodes[id]
	e, f := act(a, false), act(b, true)
	out, rude := a.Out(), b.Out()
	if e != f || !slices.EqualFunc(out, rude, wire.SameMsg) || state(a) != state(b) {
		w.t.Fatalf("P2: what is written over what was handed in, or told, is to be seen: %v, %v; %+v, %+v; %s, %s", e, f, out, rude, state(a), state(b))
	}
	w.plain.net = append(w.plain.net, out...)
	scrawlMsgs(rude)
	scrawlEntries(b.Read())
	scrawlGens(b.Gens())
	g := b.Gen()
	scrawl(g.Config.New, g.Config.Old, b.Members())
	for i := 1; i <= b.Commit(); i++ {
		own, _ := b.Entry(i)
		scrawl(own.Members)
	}
	if state(a) != state(b) {
		w.t.Fatalf("P2: what is written over what was told is to be seen: %s, %s", state(a), state(b))
	}
}

// step hands in a message.
func (w *twins) step(m api.Msg) {
	w.t.Helper()
	w.both(m.To, func(n *Node, rude bool) api.Errno {
		if !rude {
			return n.Step(m)
		}
		handed := withRoom(m)
		was := unfolded(handed)
		e := n.Step(handed)
		if !wire.SameMsg(unfolded(handed), was) {
			w.t.Fatalf("P2: what was handed in is now %+v", unfolded(handed))
		}
		scrawlMsgs([]api.Msg{handed})
		return e
	})
}

// call hands in an entry.
func (w *twins) call(id int, e api.Entry) {
	w.t.Helper()
	w.both(id, func(n *Node, rude bool) api.Errno {
		if !rude {
			return n.Call(e)
		}
		members := roomy(e.Members...)
		e.Members = members
		errno := n.Call(e)
		if !slices.Equal(whole(members)[len(members):len(members)+3], list(spare, spare, spare)) {
			w.t.Fatalf("P2: what was handed in is now %v", whole(members))
		}
		scrawl(members)
		return errno
	})
}

// P2: messages, entries, and lists that are handed in are neither changed nor kept; what is told is nobody else's.
func TestMemory(t *testing.T) {
	for _, kind := range kinds() {
		gens, changes := 0, 0
		for seed := range 6 {
			x := from(seed)
			w := &twins{t, newWorld(t, 3, kind, 0, 1, 2), newWorld(t, 3, kind, 0, 1, 2)}
			for round := range 150 {
				for id := range 3 {
					draw := x.next(10)
					w.both(id, func(n *Node, rude bool) api.Errno { return n.Tick(draw) })
					if !w.plain.nodes[id].Leads() || round%6 > 0 {
						continue
					}
					switch x.next(4) {
					case 0:
						w.call(id, w.plain.change(x.members(3)...))
					case 1:
						w.call(id, w.plain.migrate(1+x.next(2)))
					default:
						w.call(id, w.plain.data())
					}
				}
				for len(w.plain.net) > 0 {
					m := w.plain.net[0]
					w.plain.net = w.plain.net[1:]
					if m.To < 3 && x.next(30) > 0 {
						w.step(m)
					}
				}
			}
			gens += len(w.plain.nodes[0].Gens()) - 1
			for i := range w.plain.nodes[0].Commit() {
				if e, _ := w.plain.nodes[0].Entry(i + 1); e.Kind == api.KConf {
					changes++
				}
			}
		}
		if gens < 8 || changes < 5 {
			t.Errorf("hardly asked: %d migrations, %d changes", gens, changes)
		}
	}
}

// P2: the members of a generation that New is handed, with their spare room, are neither changed nor kept.
func TestNewKeepsNothing(t *testing.T) {
	for _, kind := range kinds() {
		members, old := roomy(0, 1, 2), roomy()
		n := newNode(t, newTape(t), 0, api.Generation{N: 1, Engine: kind, Config: api.Config{Old: old, New: members}})
		if !slices.Equal(whole(members)[:6], list(0, 1, 2, spare, spare, spare)) || !slices.Equal(whole(old)[:3], list(spare, spare, spare)) {
			t.Errorf("P2: what was handed in is now %v, %v", whole(members), whole(old))
		}
		scrawl(members, old)
		checkNew(t, n, 0, kind)
	}
}

// P2: no two lists of one answer share memory, their spare room too; what was told stays, whatever is written over what is told later.
func TestListsOfOneAnswer(t *testing.T) {
	for _, kind := range kinds() {
		l := []api.Entry{change(1, 1, 0, 2), filler(api.KDone, 0, 2), migrate(1, 2, kind), change(1, 3, 0, 1, 2), filler(api.KDone, 0, 1, 2), migrate(1, 4, 3-kind), change(1, 5, 5)}
		w := taught(t, kind, l...)
		n := w.nodes[0]
		read, gens := n.Read(), n.Gens()
		for i := range read {
			if !wire.SameEntry(read[i], n.Read()[i]) {
				t.Fatalf("P2: entry %d shares a list with another one: %+v", i, read[i])
			}
			scrawl(read[i].Members)
		}
		for i := range gens {
			if !sameGeneration(gens[i], n.Gens()[i]) {
				t.Fatalf("P2: generation %d shares a list with another one: %+v", i, gens[i])
			}
			scrawl(gens[i].Config.New, gens[i].Config.Old)
		}
		n.Out()
		for from := range 8 {
			if e := n.Step(stamped(api.Msg{From: from + 1, To: 0, Gen: 1, Kind: greeting}, 77, 1)); e != api.OK {
				t.Fatal(e)
			}
		}
		out := n.Out()
		if len(out) != 8 {
			t.Fatalf("it tells %+v", out)
		}
		for i, m := range out {
			if !slices.EqualFunc(m.Entries, l, wire.SameEntry) || !slices.Equal(m.Config.Old, list(n.life(), n.counted(m.To))) {
				t.Fatalf("P2: message %d shares a list with another one: %+v", i, m)
			}
			scrawlMsgs(out[i : i+1 : i+1])
		}
		w.settle(0)
	}
}

// counted is how many messages to a peer were stamped; it stamps one more.
func (n *Node) counted(to int) int {
	_, number := n.link.Stamp(to)
	return number - 1
}
