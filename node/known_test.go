package node

import (
	"slices"
	"testing"

	"synodal/api"
	"synodal/conf"
	"synodal/wire"
)

// entry makes one of a client's; filler makes one of an engine's own.
func entry(kind, client, seq int) api.Entry { return api.Entry{Kind: kind, Client: client, Seq: seq} }

func filler(kind int, members ...int) api.Entry { return api.Entry{Kind: kind, Members: members} }

func change(client, seq int, members ...int) api.Entry {
	return api.Entry{Kind: api.KConf, Client: client, Seq: seq, Members: members}
}

func migrate(client, seq, to int) api.Entry {
	return api.Entry{Kind: api.KMigrate, Client: client, Seq: seq, To: to}
}

// taught is a world of one node, that was told by another one which entries are committed.
func taught(t *testing.T, kind int, l ...api.Entry) *world {
	t.Helper()
	w := newWorld(t, 1, kind, 0, 1, 2)
	w.teach(l...)
	return w
}

// teach tells the one node what is committed, and holds all that it tells then against that.
func (w *world) teach(l ...api.Entry) {
	w.t.Helper()
	w.asked = append(w.asked, l...)
	n := w.nodes[0]
	_, number := n.link.Stamp(1 << 20) // some number that it was not told yet
	if e := n.Step(stamped(api.Msg{From: 1, To: 0, Gen: 9, Kind: story, Entries: l}, 1, number)); e != api.OK {
		w.t.Fatalf("P2002: %v", e)
	}
	w.settle(0)
	if n.Commit() < len(l) {
		w.t.Fatalf("P2004: it was told %d entries, and knows %d", len(l), n.Commit())
	}
}

// P2003: at each index what is committed there, and nothing at 0, below, and behind the last one; of an elder generation up to a seal, of the newer one behind it.
func TestEntry(t *testing.T) {
	for _, kind := range kinds() {
		l := []api.Entry{
			filler(api.KNone), entry(api.KData, 1, 1), migrate(1, 2, 3-kind), filler(api.KNone), change(2, 1, 4, 5), filler(api.KDone, 4, 5),
			entry(api.KData, 1, 3), migrate(2, 2, kind), migrate(2, 3, kind), entry(api.KData, 1, 4),
		}
		n := taught(t, kind, l...).nodes[0]
		if n.Commit() != len(l) {
			t.Fatalf("P2003: commit %d", n.Commit())
		}
		for i := -3; i < 2*len(l); i++ {
			e, ok := n.Entry(i)
			want := api.Entry{}
			if i >= 1 && i <= len(l) {
				want = l[i-1]
			}
			if ok != (want.Kind != 0 || i >= 1 && i <= len(l)) || !wire.SameEntry(e, want) {
				t.Errorf("P2003: at %d %+v, %v", i, e, ok)
			}
		}
		if e, ok := newNode(t, newTape(t), 0, generation(kind, 0)).Entry(1); ok || e.Kind != 0 {
			t.Error("P2003: a new node knows something")
		}
	}
}

// P2003: fillers have no place; a request has that where it came first, and none, if a later one of that client's came ahead.
func TestReadAndPlace(t *testing.T) {
	for _, kind := range kinds() {
		again := entry(api.KData, 1, 2)
		again.Data = "again"
		l := []api.Entry{
			filler(api.KNone), entry(api.KData, 1, 2), again, entry(api.KData, 2, 7), filler(api.KDone), entry(api.KData, 1, 1),
			change(1, 3, 0, 1), filler(api.KDone, 0, 1), migrate(2, 8, 3-kind), entry(api.KData, 1, 3), entry(api.KData, 2, 7), entry(api.KData, 3, 1),
		}
		n := taught(t, kind, l...).nodes[0]
		want := []api.Entry{l[1], l[3], l[6], l[8], l[11]}
		if !slices.EqualFunc(n.Read(), want, wire.SameEntry) {
			t.Errorf("P2003: it reads %+v", n.Read())
		}
		for _, x := range []struct {
			client, seq, place int
			e                  api.Errno
		}{
			{1, 2, 1, api.OK}, {2, 7, 2, api.OK}, {1, 3, 3, api.OK}, {2, 8, 4, api.OK}, {3, 1, 5, api.OK},
			{1, 1, 0, api.ErrStale}, {2, 1, 0, api.ErrStale}, {2, 6, 0, api.ErrStale},
			{1, 4, 0, api.ErrNone}, {2, 9, 0, api.ErrNone}, {3, 2, 0, api.ErrNone}, {4, 1, 0, api.ErrNone}, {1 << 40, 1 << 40, 0, api.ErrNone},
			{0, 1, 0, api.ErrArg}, {1, 0, 0, api.ErrArg}, {-1 << 63, 2, 0, api.ErrArg}, {1, -1, 0, api.ErrArg},
		} {
			if place, e := n.Place(x.client, x.seq); place != x.place || e != x.e {
				t.Errorf("P2003: Place(%d, %d): %d, %v", x.client, x.seq, place, e)
			}
		}
	}
}

// P2003: one generation, and one more for each KMigrate, of its engine, behind its index, with the members that count there.
func TestGens(t *testing.T) {
	first := api.Config{New: list(0, 1, 2)}
	for _, x := range []struct {
		log  []api.Entry
		want []api.Generation
	}{
		{nil, nil},
		{[]api.Entry{entry(api.KData, 1, 1), change(1, 2, 4), filler(api.KDone, 4)}, nil},
		{[]api.Entry{migrate(1, 1, api.Raft)}, []api.Generation{{N: 2, Engine: api.Raft, Base: 1, Config: first}}},
		{[]api.Entry{migrate(1, 1, api.Chain)}, []api.Generation{{N: 2, Engine: api.Chain, Base: 1, Config: first}}},
		{[]api.Entry{filler(api.KNone), migrate(1, 1, api.Chain), migrate(1, 2, api.Chain), entry(api.KData, 1, 3), migrate(1, 4, api.Raft)}, []api.Generation{
			{N: 2, Engine: api.Chain, Base: 2, Config: first}, {N: 3, Engine: api.Chain, Base: 3, Config: first}, {N: 4, Engine: api.Raft, Base: 5, Config: first}}},
		{[]api.Entry{migrate(1, 2, api.Raft), migrate(1, 2, api.Chain), migrate(1, 1, api.Raft)}, []api.Generation{ // requests that came again, or too late
			{N: 2, Engine: api.Raft, Base: 1, Config: first}, {N: 3, Engine: api.Chain, Base: 2, Config: first}, {N: 4, Engine: api.Raft, Base: 3, Config: first}}},
		{[]api.Entry{change(1, 1, 3, 4), filler(api.KDone, 3, 4), migrate(1, 2, api.Chain), entry(api.KData, 2, 1), migrate(1, 3, api.Raft), change(1, 4, 8), filler(api.KNone), filler(api.KDone, 8), change(1, 5, 2, 8), filler(api.KDone, 2, 8), migrate(2, 2, api.Raft)}, []api.Generation{
			{N: 2, Engine: api.Chain, Base: 3, Config: api.Config{New: list(3, 4)}}, {N: 3, Engine: api.Raft, Base: 5, Config: api.Config{New: list(3, 4)}}, {N: 4, Engine: api.Raft, Base: 11, Config: api.Config{New: list(2, 8)}}}},
	} {
		for _, kind := range kinds() {
			n := taught(t, kind, x.log...).nodes[0]
			want := append([]api.Generation{generation(kind, 0, 1, 2)}, x.want...)
			if got := n.Gens(); !slices.EqualFunc(got, want, sameGeneration) || !sameGeneration(n.Gen(), want[len(want)-1]) {
				t.Errorf("P2003: of %+v: %+v, %+v", x.log, got, n.Gen())
			}
			if last := want[len(want)-1]; n.engine.Kind() != last.Engine || !slices.Equal(n.Members(), last.Config.New) || n.Leads() {
				t.Errorf("P2003: its engine is of kind %d, of the members %v", n.engine.Kind(), n.Members())
			}
		}
	}
}

// committed is some log that engines may have made: so many entries behind a first generation of 0, 1, 2.
func committed(x *picks, kind, count int) []api.Entry {
	var out []api.Entry
	now := api.Config{New: list(0, 1, 2)}
	for len(out) < count {
		e := entry(api.KData, 1+x.next(3), 1+x.next(9))
		switch x.next(8) {
		case 0:
			e = filler(api.KNone)
		case 1:
			if next, errno := conf.Enter(now, x.members(9)); errno == api.OK {
				e = change(e.Client, e.Seq, next.New...)
				if now = next; kind == api.Chain {
					now = api.Config{New: next.New}
				}
			}
		case 2, 3:
			if next, errno := conf.Leave(now); errno == api.OK {
				e, now = filler(api.KDone, next.New...), next
			}
		case 4:
			if !conf.Joint(now) {
				kind = 1 + x.next(2)
				e = migrate(e.Client, e.Seq, kind)
			}
		}
		out = append(out, e)
	}
	return out
}

// P2003: whatever is committed, told in whatever pieces: all that the node tells follows from it, and lasts.
func TestTaught(t *testing.T) {
	gens, changes := 0, 0
	for seed := range 150 {
		x := picks(seed * 77)
		kind := 1 + x.next(2)
		l := committed(&x, kind, x.next(api.MaxLog+1))
		w := taught(t, kind)
		for at := 0; at < len(l); {
			at = min(len(l), at+1+x.next(9))
			w.teach(l[:at]...)
			w.teach(l[:x.next(at+1)]...) // what it knows already
			if x.next(4) == 0 {
				w.reopen(0, 0)
			}
		}
		if w.nodes[0].Commit() != len(l) {
			t.Fatalf("P2003: it was told %d entries, and knows %d", len(l), w.nodes[0].Commit())
		}
		gens += len(w.nodes[0].Gens()) - 1
		for _, e := range l {
			if e.Kind == api.KConf {
				changes++
			}
		}
	}
	if gens < 200 || changes < 200 {
		t.Errorf("hardly asked: %d migrations, %d changes", gens, changes)
	}
}

// P2003: the greatest log that there may be, of the longest entries, all of them seals: it is known, and lasts.
func TestGreatest(t *testing.T) {
	for _, kind := range kinds() {
		var seals, changes []api.Entry
		for i := range 56 {
			seals = append(seals, migrate(1<<39+i, 1<<39, 1+i%2))
		}
		for i := range 32 {
			members := list(0, 1, 2, 3, 4, 5, 6)
			if i%2 == 0 {
				members = list(2, 3, 4, 5, 6, 7, 8)
			}
			changes = append(changes, change(1<<39, i+1, members...), filler(api.KDone, members...))
		}
		w := taught(t, kind, seals...)
		if l := w.nodes[0].Gens(); len(l) != 57 || l[56].N != 57 || l[56].Base != 56 {
			t.Errorf("P2003: %d generations", len(l))
		}
		n := taught(t, kind, changes...).nodes[0]
		if n.Commit() != api.MaxLog || len(n.Read()) != 32 {
			t.Errorf("P2003: %d committed, %d read", n.Commit(), len(n.Read()))
		}
	}
}

// P8: entries that can't be committed one behind the other no program of this kind tells: what is told of them is nothing.
func TestTaughtOdd(t *testing.T) {
	for _, kind := range kinds() {
		w := taught(t, kind, entry(api.KData, 1, 1))
		n := w.nodes[0]
		was := state(n)
		for i, l := range [][]api.Entry{
			{entry(api.KData, 1, 1), migrate(1, 2, 0)}, // to no engine
			{entry(api.KData, 1, 1), change(1, 2, 5, 5), migrate(1, 3, api.Raft)},
			{entry(api.KData, 1, 1), change(1, 2), migrate(1, 3, api.Raft)},
		} {
			if e := n.Step(stamped(api.Msg{From: 4, To: 0, Gen: 1, Kind: story, Entries: l}, 1, i+1)); e != api.OK || state(n) != was || len(n.Out()) > 0 {
				t.Errorf("P8: %d: %v", i, e)
			}
		}
		w.teach(entry(api.KData, 1, 1), entry(api.KData, 1, 2))
	}
}

// P2003: Members are those of the engine's configuration: of both lists, while it is joint.
func TestMembers(t *testing.T) {
	for _, kind := range kinds() {
		w := newWorld(t, 6, kind, 0, 1, 2)
		w.calm()
		lead := w.leader()
		w.apart(lead)
		w.must(lead, w.change(2, 3, 5))
		want := list(0, 1, 2, 3, 5)
		if kind == api.Chain {
			want = list(0, 1, 2) // till it is committed
		}
		if got := w.nodes[lead].Members(); !slices.Equal(got, want) {
			t.Errorf("P2003: members %v, not %v", got, want)
		}
		w.calm()
		w.goes(w.data())
		for _, member := range list(2, 3, 5, w.leader()) {
			if got := w.nodes[member].Members(); !slices.Equal(got, list(2, 3, 5)) {
				t.Errorf("P2003: node %d: members %v", member, got)
			}
		}
		w.goes(w.migrate(3 - kind))
		for id, n := range w.nodes {
			if got := n.Members(); !slices.Equal(got, list(2, 3, 5)) || !slices.Equal(n.Gen().Config.New, got) {
				t.Errorf("P2003: node %d: members %v in %+v", id, got, n.Gen())
			}
		}
	}
}

// P2003: Leads: the one alone whose engine leads; of its own generation.
func TestLeads(t *testing.T) {
	for _, kind := range kinds() {
		w := newWorld(t, 3, kind, 0, 1, 2)
		w.calm()
		lead := w.leader()
		w.must(lead, w.migrate(3-kind))
		w.rounds(1)
		for id, n := range w.nodes {
			if n.Leads() || n.Gen().N != 2 {
				t.Errorf("P2003: node %d leads, in generation %d", id, n.Gen().N)
			}
		}
		if e := w.call(lead, w.data()); e != api.ErrLeader {
			t.Errorf("P2003: who led the elder generation: %v", e)
		}
		w.calm()
		w.goes(w.data())
	}
}

// P2003, T4: a seal that is not committed changes nothing that is seen, wherever it stands in a log, and though it never is.
func TestSealNotCommitted(t *testing.T) {
	for _, kind := range kinds() {
		for _, lost := range []bool{false, true} {
			w := newWorld(t, 5, kind, 0, 1, 2, 3, 4)
			w.calm()
			w.goes(w.data())
			lead := w.leader()
			friend := (lead + 1) % 5
			var was []string
			for _, n := range w.nodes {
				was = append(was, told(n))
			}
			w.lost = func(m api.Msg) bool { return lost || m.To != friend && m.To != lead }
			seal := w.migrate(3 - kind)
			w.must(lead, seal)
			for len(w.net) > 0 {
				w.deliver(0)
			}
			for id, n := range w.nodes {
				if now := told(n); now != was[id] {
					t.Errorf("T4: node %d: a seal is not committed, and it tells %s, not %s", id, now, was[id])
				}
			}
			w.apart(lead, friend)
			w.rounds(80)
			other := slices.IndexFunc(w.nodes, func(n *Node) bool { return n.Leads() && n.id != lead && n.id != friend })
			if other < 0 {
				t.Fatal("nobody else leads")
			}
			w.must(other, w.data())
			w.calm()
			if w.counts(seal) != 0 || len(w.nodes[lead].Gens()) != 1 {
				t.Errorf("T4: kind %d: a seal that was not committed counts: %+v", kind, w.all)
			}
			w.goes(w.data())
			w.goes(seal)
			w.calm()
			w.goes(w.data())
		}
	}
}
