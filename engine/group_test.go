package engine

import (
	"slices"
	"strconv"
	"testing"

	"synodal/api"
	"synodal/wire"
)

// picks is a row of numbers that hang on a first one.
type picks uint64

func (x *picks) next(count int) int {
	*x = *x*6364136223846793005 + 1442695040888963407
	return int(uint64(*x)>>33) % count
}

// members picks some of so many nodes.
func (x *picks) members(count int) []int {
	var out []int
	for id := range count {
		if x.next(2) == 0 && len(out) < api.MaxMembers {
			out = append(out, id)
		}
	}
	if len(out) == 0 {
		return list(x.next(count))
	}
	return out
}

// group is engines of one kind, each beside its core, what is under way among them, and all that was committed: for good, whoever tells it.
type group struct {
	t     *testing.T
	kind  int
	base  int
	pairs []*pair
	net   []api.Msg
	sent  []api.Msg            // all of them, but for those that say nothing new
	lost  func(m api.Msg) bool // nil: nothing is lost
	all   []api.Entry
	seq   int
}

// newGroup is a group of so many engines, of which these are members at first.
func newGroup(t *testing.T, kind, count, base int, members ...int) *group {
	t.Helper()
	g := &group{t: t, kind: kind, base: base}
	for id := range count {
		g.pairs = append(g.pairs, newPair(t, kind, id, base, members...))
	}
	return g
}

// settle sends what an engine has to send, and holds what it knows to be committed against what was.
func (g *group) settle(id int, out []api.Msg) {
	g.t.Helper()
	for _, m := range out {
		if m.To < len(g.pairs) && (g.lost == nil || !g.lost(m)) {
			g.net = append(g.net, m)
		}
	}
	if len(g.sent) < 400 {
		g.sent = append(g.sent, out...)
	}
	x := g.pairs[id].x
	for i := g.base + 1; i <= x.Commit(); i++ {
		e, ok := x.Entry(i)
		if i > g.base+len(g.all) {
			g.all = append(g.all, e)
		}
		if want := g.all[i-g.base-1]; !ok || !wire.SameEntry(e, want) {
			g.t.Fatalf("P1602: engine %d of kind %d has %+v at %d, where %+v was committed", id, g.kind, e, i, want)
		}
		if e.Kind == api.KMigrate && (i != x.Commit() || !x.Sealed()) {
			g.t.Fatalf("P1602: engine %d of kind %d: sealed %v at %d, commit %d", id, g.kind, x.Sealed(), i, x.Commit())
		}
	}
	if e, _ := x.Entry(x.Commit()); x.Sealed() && e.Kind != api.KMigrate {
		g.t.Fatalf("P1602: engine %d of kind %d is sealed by %+v", id, g.kind, e)
	}
}

func (g *group) tick(id, draw int) {
	g.t.Helper()
	g.settle(id, g.pairs[id].tick(draw))
}

// deliver delivers the k-th message that is under way.
func (g *group) deliver(k int) {
	g.t.Helper()
	m := g.net[k]
	g.net = slices.Delete(g.net, k, k+1)
	g.settle(m.To, g.pairs[m.To].step(m))
}

// load lets an engine begin from what it saved last.
func (g *group) load(id int) {
	g.t.Helper()
	g.settle(id, g.pairs[id].load())
}

func (g *group) propose(id int, e api.Entry) (int, api.Errno) {
	g.t.Helper()
	index, errno := g.pairs[id].propose(e)
	g.settle(id, g.pairs[id].told())
	return index, errno
}

// must proposes an entry that must be taken by the one that leads.
func (g *group) must(e api.Entry) int {
	g.t.Helper()
	index, errno := g.propose(g.leader(), e)
	if errno != api.OK {
		g.t.Fatalf("P1602: kind %d: Propose(%+v): %v", g.kind, e, errno)
	}
	return index
}

// rounds are quiet rounds, unless something is lost.
func (g *group) rounds(count int) {
	g.t.Helper()
	for range count {
		for id := range g.pairs {
			g.tick(id, 7*id%10)
		}
		for k := 0; len(g.net) > 0 && k < 2000; k++ {
			g.deliver(0)
		}
		g.net = nil
	}
}

// leader tells the one that leads, if one alone does.
func (g *group) leader() int {
	g.t.Helper()
	var who []int
	for id, p := range g.pairs {
		if p.x.Role() == api.Leader {
			who = append(who, id)
		}
	}
	if len(who) != 1 {
		g.t.Fatalf("P1602: of kind %d these lead: %v", g.kind, who)
	}
	return who[0]
}

// calm lets 100 quiet rounds go by: behind these one leads, all that it has is committed, and all others know it.
func (g *group) calm() int {
	g.t.Helper()
	g.lost = nil
	g.rounds(100)
	id := g.leader()
	for who, p := range g.pairs {
		if p.x.Commit() != g.base+len(g.all) {
			g.t.Fatalf("P1602: kind %d: %d leads, and %d knows %d to be committed, not %d", g.kind, id, who, p.x.Commit(), g.base+len(g.all))
		}
	}
	return id
}

// goes says that what the one that leads takes is committed at all within 40 quiet rounds.
func (g *group) goes(e api.Entry) {
	g.t.Helper()
	index := g.must(e)
	g.rounds(40)
	for id, p := range g.pairs {
		if at, ok := p.x.Entry(index); !ok || p.x.Commit() < index || !wire.SameEntry(at, e) {
			g.t.Fatalf("P1602: kind %d: at %d engine %d has %+v, commit %d, not %+v", g.kind, index, id, at, p.x.Commit(), e)
		}
	}
}

// only loses all messages but those among these.
func (g *group) only(ids ...int) {
	g.lost = func(m api.Msg) bool { return !slices.Contains(ids, m.From) || !slices.Contains(ids, m.To) }
	g.net = slices.DeleteFunc(g.net, g.lost)
}

// data, change and migrate are requests that were not made yet.
func (g *group) data() api.Entry {
	g.seq++
	return api.Entry{Kind: api.KData, Client: 1, Seq: g.seq, Data: "d" + strconv.Itoa(g.seq)}
}

func (g *group) change(members ...int) api.Entry {
	g.seq++
	return api.Entry{Kind: api.KConf, Client: 2, Seq: g.seq, Members: members}
}

func (g *group) migrate() api.Entry {
	g.seq++
	return api.Entry{Kind: api.KMigrate, Client: 3, Seq: g.seq, To: other(g.kind)}
}
