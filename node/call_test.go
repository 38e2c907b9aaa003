package node

import (
	"slices"
	"strings"
	"testing"

	"synodal/api"
	"synodal/wire"
)

// refuse says that a node refuses an entry by that error, and is what it was.
func refuse(t *testing.T, n *Node, e api.Entry, want api.Errno) {
	t.Helper()
	was, ops, sent := state(n), n.tape.Ops(), len(n.out)
	if errno := n.Call(e); errno != want {
		t.Fatalf("P2002: Call(%+v): %v, not %v", e, errno, want)
	}
	if state(n) != was || n.tape.Ops() != ops || len(n.out) != sent {
		t.Fatalf("P5: Call(%+v): %v, and it is another one", e, want)
	}
}

// unfit are entries that no engine takes, whatever its state, and the error by which they are refused: the first one, if several apply.
func unfit() map[api.Errno][]api.Entry {
	long, many := strings.Repeat("x", 17), list(0, 1, 2, 3, 4, 5, 6, 7)
	return map[api.Errno][]api.Entry{
		api.ErrKind: {
			{}, {Kind: api.KDone, Client: 1, Seq: 1, Members: list(0)}, {Kind: api.KNone, Client: 1, Seq: 1},
			{Kind: 5, Client: 1, Seq: 1}, {Kind: -1, Client: 0, Data: long}, {Kind: 1 << 40},
		},
		api.ErrArg: {
			{Kind: api.KData, Client: 0, Seq: 1}, {Kind: api.KData, Client: 1, Seq: 0}, {Kind: api.KData, Client: -1, Seq: -1 << 63, Data: long},
			{Kind: api.KConf, Client: 0, Seq: 1, Members: many}, {Kind: api.KMigrate, Client: 1, Seq: -5, To: 7},
			{Kind: api.KData, Client: 1, Seq: 1, Members: list(0)}, {Kind: api.KData, Client: 1, Seq: 1, To: 1},
			{Kind: api.KConf, Client: 1, Seq: 1, Members: list(9)}, {Kind: api.KConf, Client: 1, Seq: 1, Members: list(-1)},
			{Kind: api.KConf, Client: 1, Seq: 1, Members: list(1, 0)}, {Kind: api.KConf, Client: 1, Seq: 1, Members: list(1, 1)},
			{Kind: api.KConf, Client: 1, Seq: 1, Members: list(0), Data: "x"}, {Kind: api.KConf, Client: 1, Seq: 1, Members: list(0), To: 2},
			{Kind: api.KMigrate, Client: 1, Seq: 1}, {Kind: api.KMigrate, Client: 1, Seq: 1, To: 3}, {Kind: api.KMigrate, Client: 1, Seq: 1, To: -1},
			{Kind: api.KMigrate, Client: 1, Seq: 1, To: 1, Data: "x"}, {Kind: api.KMigrate, Client: 1, Seq: 1, To: 2, Members: list(0)},
		},
		api.ErrLong: {
			{Kind: api.KData, Client: 1, Seq: 1, Data: long}, {Kind: api.KData, Client: 1, Seq: 1, Data: strings.Repeat("x", 5000), To: 9},
		},
		api.ErrMany: {
			{Kind: api.KConf, Client: 1, Seq: 1, Members: many}, {Kind: api.KConf, Client: 1, Seq: 1, Members: make([]int, 8), Data: "x"},
		},
		api.ErrNone: {
			{Kind: api.KConf, Client: 1, Seq: 1}, {Kind: api.KConf, Client: 1, Seq: 1, To: 1},
		},
	}
}

// checkUnfit says that what no engine takes is refused for what it is, as an engine's Propose does.
func checkUnfit(t *testing.T, n *Node) {
	t.Helper()
	x := engineOf(t, 0, generation(n.Gen().Engine, 0))
	for errno, l := range unfit() {
		for _, e := range l {
			if _, want := x.Propose(e); want != errno {
				t.Fatalf("%+v: %v, not %v", e, want, errno)
			}
			refuse(t, n, e, errno)
		}
	}
}

// P2002: what an entry is comes ahead of whether that request is placed, or was passed, and of all that hangs on the state.
func TestCallUnfit(t *testing.T) {
	for _, kind := range kinds() {
		w := newWorld(t, 1, kind, 0)
		n := w.nodes[0]
		checkUnfit(t, n) // it does not lead
		w.rounds(20)
		checkUnfit(t, n)
		w.must(0, w.data())
		checkUnfit(t, n) // that request is placed
		w.must(0, api.Entry{Kind: api.KData, Client: 6, Seq: 9})
		for errno, l := range unfit() {
			for _, e := range l {
				if e.Client == 1 && e.Seq == 1 {
					e.Client = 6 // that one was passed
					refuse(t, n, e, errno)
				}
			}
		}
		w.apart()
		w.must(0, w.change(0, 1))
		for range 10 {
			n.Call(w.data())
		}
		checkUnfit(t, n) // members change, or are to be elected
	}
}

// P2002: bounds that an entry may just keep.
func TestCallBounds(t *testing.T) {
	for _, kind := range kinds() {
		w := newWorld(t, 1, kind, 0)
		w.rounds(20)
		for i, e := range []api.Entry{
			{Kind: api.KData, Client: 1, Seq: 1, Data: strings.Repeat("x", 16)}, {Kind: api.KData, Client: 1, Seq: 2},
			{Kind: api.KData, Client: api.MaxClient, Seq: 1 << 39}, {Kind: api.KData, Client: 1 << 39, Seq: 1, Data: "\x00\xff"},
			{Kind: api.KConf, Client: 2, Seq: 1, Members: list(2, 3, 4, 5, 6, 7, 8)},
		} {
			w.must(0, e)
			if i == 4 {
				continue // others are to decide that
			}
			if at, errno := w.nodes[0].Place(e.Client, e.Seq); at != i+1 || errno != api.OK {
				t.Errorf("P2003: %+v has the place %d, %v", e, at, errno)
			}
		}
	}
}

// P2002: a request that is placed is ErrIs, one that was passed ErrStale, whatever state the engine is in, and whatever else of it is another one now.
func TestCallPlaced(t *testing.T) {
	for _, kind := range kinds() {
		w := newWorld(t, 3, kind, 0, 1, 2)
		w.calm()
		w.goes(api.Entry{Kind: api.KData, Client: 1, Seq: 5, Data: "a"})
		w.goes(api.Entry{Kind: api.KConf, Client: 4, Seq: 3, Members: list(0, 1)})
		w.calm()
		check := func(n *Node) {
			t.Helper()
			for _, what := range []api.Entry{{Kind: api.KData}, {Kind: api.KData, Data: "b"}, {Kind: api.KConf, Members: list(0, 1)}, {Kind: api.KConf, Members: list(4)}, {Kind: api.KMigrate, To: kind}} {
				for _, of := range [][]int{{1, 5}, {4, 3}} {
					what.Client, what.Seq = of[0], of[1]
					refuse(t, n, what, api.ErrIs)
					for _, seq := range list(1, of[1]-1) {
						what.Seq = seq
						refuse(t, n, what, api.ErrStale)
					}
				}
			}
		}
		for _, n := range w.nodes { // ahead of ErrLeader, of ErrIs of members that there are, and of OK
			check(n)
		}
		lead := w.leader()
		w.apart(lead)
		w.must(lead, w.migrate(3-kind))
		check(w.nodes[lead]) // ahead of ErrSeal
		w.calm()
		for _, n := range w.nodes { // in the next generation, too
			check(n)
		}
		for range 60 {
			if e := w.data(); e.Seq > 5 {
				w.call(w.leader(), e)
			}
			w.rounds(2)
		}
		n := w.nodes[w.leader()]
		refuse(t, n, w.request(7, api.Entry{Kind: api.KData}), api.ErrFull)
		refuse(t, n, api.Entry{Kind: api.KData, Client: 1, Seq: 5}, api.ErrIs) // ahead of ErrFull
		refuse(t, n, api.Entry{Kind: api.KData, Client: 1, Seq: 4}, api.ErrStale)
	}
}

// P2002: what an engine refuses by its state is refused so: one that does not lead, one whose members change, one that is to be sealed, one that is full.
func TestCallState(t *testing.T) {
	for _, kind := range kinds() {
		w := newWorld(t, 3, kind, 0, 1, 2)
		for _, n := range w.nodes {
			refuse(t, n, w.data(), api.ErrLeader)
			refuse(t, n, w.change(0, 1, 2), api.ErrLeader)
		}
		w.calm()
		w.goes(w.data())
		lead := w.leader()
		n := w.nodes[lead]
		refuse(t, w.nodes[(lead+1)%3], w.data(), api.ErrLeader)
		refuse(t, w.nodes[(lead+2)%3], w.migrate(kind), api.ErrLeader)
		refuse(t, n, w.change(0, 1, 2), api.ErrIs)
		w.apart(lead)
		change, later := w.change(0, 1), w.change(1, 2)
		w.must(lead, change)
		busy := api.ErrBusy
		if kind == api.Chain {
			busy = api.ErrSeal // the change ends the instance
		}
		refuse(t, n, later, busy)
		refuse(t, n, w.migrate(3-kind), busy)
		w.calm()
		w.must(w.leader(), later)
		w.calm()
		lead = w.leader()
		w.apart(lead)
		w.must(lead, w.migrate(kind))
		refuse(t, w.nodes[lead], w.data(), api.ErrSeal)
		refuse(t, w.nodes[lead], w.change(0), api.ErrSeal)
		refuse(t, w.nodes[lead], w.migrate(kind), api.ErrSeal)
	}
}

// counts tells how often a request stands in what is committed.
func (w *world) counts(e api.Entry) int {
	count := 0
	for _, x := range w.all {
		if x.Client == e.Client && x.Seq == e.Seq {
			count++
		}
	}
	return count
}

// P2002: a request that waits in its engine's log is OK, however often it is asked for, and whatever else of it is another one; it stands once.
func TestCallWaits(t *testing.T) {
	for _, kind := range kinds() {
		for _, last := range list(api.KData, api.KConf, api.KMigrate) {
			w := newWorld(t, 3, kind, 0, 1, 2)
			w.calm()
			lead := w.leader()
			w.apart(lead)
			l := []api.Entry{w.data(), w.data(), w.request(4, api.Entry{Kind: api.KData}), w.data()}
			switch last {
			case api.KConf:
				l = append(l, w.change((lead+1)%3))
			case api.KMigrate:
				l = append(l, w.migrate(kind))
			}
			for range 3 {
				for i, e := range l {
					w.must(lead, e)
					refuse(t, w.nodes[lead], l[0], api.OK)
					refuse(t, w.nodes[lead], e, api.OK)
					e.Kind, e.Data, e.Members, e.To = api.KData, "other", nil, 0
					if i > 0 {
						refuse(t, w.nodes[lead], e, api.OK)
					}
				}
			}
			w.calm()
			for _, e := range l {
				if w.counts(e) != 1 {
					t.Errorf("P2002: kind %d: %+v stands %d times in %+v", kind, e, w.counts(e), w.all)
				}
			}
			w.goes(w.data())
		}
	}
}

// P2002: in a log of one that does not lead a request waits, too, as far as the engine has it there; elsewhere it is refused.
func TestCallWaitsElsewhere(t *testing.T) {
	w := newWorld(t, 3, api.Raft, 0, 1, 2)
	w.calm()
	lead := w.leader()
	near, far := (lead+1)%3, (lead+2)%3
	e := w.data()
	w.apart(far)
	w.must(lead, e)
	for k := 0; k < len(w.net); k++ { // near takes it, and does not know that it is committed
		if m := w.net[k]; m.To == near {
			w.deliver(k)
			break
		}
	}
	refuse(t, w.nodes[near], e, api.OK)
	refuse(t, w.nodes[far], e, api.ErrLeader)
	refuse(t, w.nodes[near], w.data(), api.ErrLeader)
	w.calm()
	if w.counts(e) != 1 {
		t.Errorf("P2002: it stands %d times in %+v", w.counts(e), w.all)
	}
	for _, n := range w.nodes {
		refuse(t, n, e, api.ErrIs)
	}
}

// P2002: what an engine has forgotten, or has never had, does not wait there: when another one led meanwhile, it is asked for anew, and stands once.
func TestCallForgotten(t *testing.T) {
	for _, kind := range kinds() {
		w := newWorld(t, 3, kind, 0, 1, 2)
		w.calm()
		elder := w.leader()
		l := []api.Entry{w.data(), w.data(), w.data()}
		w.apart(elder)
		for _, e := range l {
			w.must(elder, e)
		}
		for range 60 { // the other two elect one, and get something else committed
			w.round()
		}
		other := slices.IndexFunc(w.nodes, func(n *Node) bool { return n.Leads() && n.id != elder })
		if other < 0 {
			t.Fatal("nobody else leads")
		}
		w.must(other, w.request(5, api.Entry{Kind: api.KData}))
		w.calm()
		for _, e := range l[1:] {
			refuse(t, w.nodes[elder], e, api.ErrLeader)
		}
		for range 300 { // till the elder one leads again
			if w.nodes[elder].Leads() {
				break
			}
			w.tick(elder, 0)
			for len(w.net) > 0 {
				w.deliver(0)
			}
		}
		if !w.nodes[elder].Leads() {
			t.Fatal("it does not lead again")
		}
		w.goes(l[2])
		if w.counts(l[2]) != 1 || w.counts(l[1]) != 0 {
			t.Errorf("P2002: kind %d: it stands %d times in %+v", kind, w.counts(l[2]), w.all)
		}
		refuse(t, w.nodes[elder], l[1], api.ErrStale)
	}
}

// P2002: what waited in an elder generation's engine, behind its seal, waits in the next one's no more.
func TestCallBehindSeal(t *testing.T) {
	for _, kind := range kinds() {
		for _, to := range kinds() {
			w := newWorld(t, 2, kind, 0, 1)
			w.calm()
			lead := w.leader()
			w.must(lead, w.data())
			w.must(lead, w.migrate(to))
			w.calm()
			w.apart(w.leader())
			e := w.data()
			w.must(w.leader(), e)
			w.must(w.leader(), e)
			w.calm()
			if w.counts(e) != 1 || !wire.SameEntry(w.all[len(w.all)-1], e) {
				t.Errorf("P2002: it stands %d times in %+v", w.counts(e), w.all)
			}
		}
	}
}

// P2002: numbers that go back: while neither is placed, both are taken; the one that comes behind a later one is not seen.
func TestCallBack(t *testing.T) {
	for _, kind := range kinds() {
		w := newWorld(t, 3, kind, 0, 1, 2)
		w.calm()
		lead := w.leader()
		w.apart(lead)
		later, elder := api.Entry{Kind: api.KData, Client: 1, Seq: 9}, api.Entry{Kind: api.KData, Client: 1, Seq: 8}
		w.must(lead, later)
		w.must(lead, elder)
		w.calm()
		if w.counts(elder) != 1 || w.counts(later) != 1 || len(w.nodes[0].Read()) != 1 {
			t.Errorf("P2003: of %+v it reads %+v", w.all, w.nodes[0].Read())
		}
		for _, n := range w.nodes {
			refuse(t, n, elder, api.ErrStale)
			refuse(t, n, later, api.ErrIs)
		}
	}
}
