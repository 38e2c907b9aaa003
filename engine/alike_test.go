package engine

import (
	"math"
	"slices"
	"strconv"
	"strings"
	"testing"

	"synodal/api"
	"synodal/wire"
)

// wrong are entries that no engine takes, whatever it is, and the error that comes first.
func wrong() map[api.Errno][]api.Entry {
	fit := api.Entry{Client: 1, Seq: 1}
	of := func(kind int, change func(e *api.Entry)) api.Entry {
		e := fit
		e.Kind = kind
		change(&e)
		return e
	}
	nothing := func(*api.Entry) {}
	return map[api.Errno][]api.Entry{
		api.ErrKind: {of(api.KNone, nothing), of(api.KDone, nothing), of(5, nothing), of(-1, nothing), of(math.MaxInt, nothing), {Kind: math.MinInt}},
		api.ErrArg: {
			of(api.KData, func(e *api.Entry) { e.Client = 0 }), of(api.KConf, func(e *api.Entry) { e.Seq = 0 }),
			of(api.KData, func(e *api.Entry) { e.Members = list(1) }), of(api.KData, func(e *api.Entry) { e.To = 1 }),
			of(api.KConf, func(e *api.Entry) { e.Members = list(2, 1) }), of(api.KConf, func(e *api.Entry) { e.Members, e.Data = list(1), "x" }),
			of(api.KConf, func(e *api.Entry) { e.Members, e.To = list(1), 1 }),
			of(api.KMigrate, nothing), of(api.KMigrate, func(e *api.Entry) { e.To = 3 }),
			of(api.KMigrate, func(e *api.Entry) { e.To, e.Data = 1, "x" }), of(api.KMigrate, func(e *api.Entry) { e.To, e.Members = 2, list(1) }),
		},
		api.ErrLong: {of(api.KData, func(e *api.Entry) { e.Data = strings.Repeat("x", api.MaxData+1) })},
		api.ErrNone: {of(api.KConf, nothing)},
		api.ErrMany: {of(api.KConf, func(e *api.Entry) { e.Members = make([]int, api.MaxMembers+1) })},
	}
}

// checkWrong says that an engine takes none of these, in whatever role it is.
func checkWrong(t *testing.T, p *pair) {
	t.Helper()
	for want, entries := range wrong() {
		for _, e := range entries {
			if index, errno := p.propose(e); index != 0 || errno != want {
				t.Errorf("P1602: kind %d, role %d: Propose(%+v): %d, %v, not %v", p.kind, p.x.Role(), e, index, errno, want)
			}
		}
	}
}

// P1602: one member alone leads behind 20 ticks, and what is proposed there is committed at once.
func TestAlone(t *testing.T) {
	for _, kind := range kinds() {
		for _, base := range list(0, 5) {
			p := newPair(t, kind, 4, base, 4)
			checkWrong(t, p)
			if _, e := p.propose(api.Entry{Kind: api.KData, Client: 1, Seq: 1}); e != api.ErrLeader {
				t.Errorf("P1602: kind %d does not lead: %v", kind, e)
			}
			p.ticks(20)
			if p.x.Role() != api.Leader {
				t.Fatalf("P1602: kind %d: role %d behind 20 ticks", kind, p.x.Role())
			}
			checkWrong(t, p)
			for range 3 {
				index, e := p.propose(api.Entry{Kind: api.KData, Client: 1, Seq: index(p), Data: "a"})
				at, ok := p.x.Entry(index)
				if e != api.OK || index <= base || p.x.Commit() != index || !ok || at.Data != "a" {
					t.Errorf("P1602: kind %d: %d, %v, commit %d, %+v", kind, index, e, p.x.Commit(), at)
				}
				p.told()
			}
			p.load()
			p.ticks(25)
			if p.x.Role() != api.Leader || p.x.Commit() < base+3 {
				t.Errorf("P1602: kind %d: role %d, commit %d", kind, p.x.Role(), p.x.Commit())
			}
		}
	}
}

// index is where the next entry may come.
func index(p *pair) int { return p.x.Commit() + 1 }

// P1602: each refusal of one that leads is its core's: of the same members, of a log that is full, of a change that is under way, behind a seal.
func TestRefusals(t *testing.T) {
	for _, kind := range kinds() {
		p := newPair(t, kind, 0, 0, 0)
		p.ticks(20)
		if _, e := p.propose(api.Entry{Kind: api.KConf, Client: 1, Seq: 1, Members: list(0)}); e != api.ErrIs {
			t.Errorf("P1602: kind %d: the same members: %v", kind, e)
		}
		for e := api.OK; e == api.OK; p.told() {
			_, e = p.propose(api.Entry{Kind: api.KData, Client: 1, Seq: index(p)})
		}
		if _, e := p.propose(api.Entry{Kind: api.KData, Client: 1, Seq: 99}); e != api.ErrFull || p.x.Commit() != api.MaxLog-8 {
			t.Errorf("P1602: kind %d: %v, commit %d", kind, e, p.x.Commit())
		}
		p = newPair(t, kind, 0, 0, 0)
		p.ticks(20)
		p.propose(api.Entry{Kind: api.KConf, Client: 1, Seq: 1, Members: list(0, 1)})
		p.told()
		want := api.ErrBusy // joint
		if kind == api.Chain {
			want = api.ErrLeader // of the instance that began
		}
		if _, e := p.propose(api.Entry{Kind: api.KConf, Client: 1, Seq: 2, Members: list(0, 2)}); e != want {
			t.Errorf("P1602: kind %d: a change of members behind another one: %v", kind, e)
		}
		p = newPair(t, kind, 0, 0, 0)
		p.ticks(20)
		p.propose(api.Entry{Kind: api.KMigrate, Client: 1, Seq: 1, To: other(kind)})
		p.told()
		if _, e := p.propose(api.Entry{Kind: api.KData, Client: 1, Seq: 2}); e != api.ErrSeal || !p.x.Sealed() {
			t.Errorf("P1602: kind %d: behind a seal: %v, sealed %v", kind, e, p.x.Sealed())
		}
		checkWrong(t, p)
	}
}

// P1602: behind a change of members that waits to be committed the one engine takes data alone, the other one nothing.
func TestUnderWay(t *testing.T) {
	for _, kind := range kinds() {
		g := newGroup(t, kind, 3, 0, 0, 1, 2)
		id := g.calm()
		g.goes(g.data())
		g.must(g.change(0, 1))
		wants := map[int][]api.Errno{api.Raft: {api.OK, api.ErrBusy, api.ErrBusy}, api.Chain: {api.ErrSeal, api.ErrSeal, api.ErrSeal}}
		for i, e := range []api.Entry{g.data(), g.change(1, 2), g.migrate()} {
			if _, errno := g.propose(id, e); errno != wants[kind][i] {
				t.Errorf("P1602: kind %d: Propose(%+v): %v, not %v", kind, e, errno, wants[kind][i])
			}
		}
		g.calm()
		g.goes(g.data())
	}
}

// P1602: other members: those that come decide, those that go do not, and all know it.
func TestMembers(t *testing.T) {
	for _, kind := range kinds() {
		g := newGroup(t, kind, 5, 2, 0, 1, 2)
		g.calm()
		g.goes(g.data())
		g.goes(g.change(2, 3, 4))
		if id := g.calm(); id < 2 || !slices.Equal(g.pairs[id].x.Config().New, list(2, 3, 4)) {
			t.Fatalf("P1602: kind %d: %d leads, %v", kind, id, g.pairs[id].x.Config())
		}
		g.only(2, 3, 4)
		index := g.must(g.data())
		g.rounds(40)
		for id, p := range g.pairs {
			if knows := p.x.Commit() >= index; knows != (id >= 2) {
				t.Errorf("P1602: kind %d: engine %d: commit %d, the entry is at %d", kind, id, p.x.Commit(), index)
			}
		}
		g.calm()
		g.only(0, 1, 2)
		was := len(g.all)
		for id := range g.pairs {
			g.propose(id, g.data())
		}
		g.rounds(60)
		if len(g.all) != was {
			t.Errorf("P1602: kind %d: of three members one alone got something committed", kind)
		}
	}
}

// P1602: a KMigrate that is committed seals all engines of the group, for good: nothing is committed behind it, and nothing stands there.
func TestSeal(t *testing.T) {
	for _, kind := range kinds() {
		g := newGroup(t, kind, 3, 0, 0, 1, 2)
		g.calm()
		g.goes(g.data())
		if g.pairs[g.leader()].x.Sealed() {
			t.Fatalf("P1602: kind %d is sealed by nothing", kind)
		}
		e := g.migrate()
		g.goes(e)
		seal := g.base + len(g.all)
		for round := range 3 {
			for id, p := range g.pairs {
				if at, _ := p.x.Entry(seal); !p.x.Sealed() || p.x.Commit() != seal || !wire.SameEntry(at, e) {
					t.Fatalf("P1602: kind %d, engine %d: sealed %v, commit %d, %+v", kind, id, p.x.Sealed(), p.x.Commit(), at)
				}
				if _, errno := g.propose(id, g.data()); errno != api.ErrSeal {
					t.Errorf("P1602: kind %d, engine %d: behind the seal: %v", kind, id, errno)
				}
				if _, ok := p.x.Entry(seal + 1); ok {
					t.Errorf("P1602: kind %d, engine %d: something stands behind the seal", kind, id)
				}
				if round == 1 {
					g.load(id)
				}
			}
			g.rounds(60)
		}
	}
}

// act does one of all that may be done, as it is drawn.
func (g *group) act(x *picks) {
	g.t.Helper()
	id, what := x.next(len(g.pairs)), x.next(100)
	switch {
	case what < 20:
		for range 1 + x.next(6) {
			g.tick(id, x.next(30)-10)
		}
	case what < 23:
		g.load(id)
	case what < 32:
		g.request(x, id)
	case len(g.net) == 0:
	case what < 35:
		k := x.next(len(g.net))
		g.net = slices.Delete(g.net, k, k+1)
	case what < 38:
		g.net = append(g.net, g.net[x.next(len(g.net))])
	default:
		g.deliver(x.next(min(len(g.net), 1+x.next(20))))
	}
}

// request proposes something, mostly to one that leads, and mostly what may be.
func (g *group) request(x *picks, id int) {
	g.t.Helper()
	for who, p := range g.pairs {
		if p.x.Role() == api.Leader && x.next(3) > 0 {
			id = who
		}
	}
	switch what := x.next(100); {
	case what < 25:
		g.propose(id, g.change(x.members(len(g.pairs))...))
	case what < 27:
		g.propose(id, g.migrate())
	case what < 32:
		checkWrong(g.t, g.pairs[id])
	default:
		g.propose(id, g.data())
	}
}

// play does so many things that are drawn, in parts of a net that are drawn, too.
func (g *group) play(x *picks, steps int) {
	g.t.Helper()
	for step := range steps {
		if step%90 == 0 {
			g.lost = nil
			if x.next(2) == 0 {
				g.only(x.members(len(g.pairs))...)
			}
		}
		g.act(x)
		if len(g.net) > 120 {
			g.net = g.net[20:]
		}
	}
}

// played is a group behind some script.
func played(t *testing.T, kind, seed int) *group {
	t.Helper()
	x := picks(seed)
	count := list(1, 2, 3, 5, 5, 9)[seed%6]
	g := newGroup(t, kind, count, x.next(8), x.members(count)...)
	g.play(&x, 200+x.next(500))
	return g
}

// few says whether at no engine more than 40 entries stand.
func (g *group) few() bool {
	return !slices.ContainsFunc(g.pairs, func(p *pair) bool {
		_, more := p.x.Entry(41)
		return more
	})
}

// P1602: whatever is lost, doubled, late, loaded anew, and handed on: an engine does as its core does, at each index one entry is committed, the same at all of a group, for good; and it goes on.
func TestScripts(t *testing.T) {
	for _, kind := range kinds() {
		committed, seals, quiet := 0, 0, 0
		for seed := range 120 {
			g := played(t, kind, seed)
			committed += len(g.all)
			if !g.few() {
				continue
			}
			quiet++
			if id := g.calm(); g.pairs[id].x.Sealed() {
				seals++
			} else {
				g.goes(g.data())
			}
		}
		if committed < 600 || seals < 5 || quiet < 80 {
			t.Errorf("kind %d: too little is asked: %d committed, %d seals, %d quiet", kind, committed, seals, quiet)
		}
	}
}

// P1602, P8: messages of the other kind's engines, and messages of none, are to an engine what they are to its core.
func TestForeign(t *testing.T) {
	for _, kind := range kinds() {
		for seed := range 60 {
			x := picks(seed)
			own, foreign := played(t, kind, seed).sent, played(t, other(kind), seed).sent
			p := newPair(t, kind, x.next(3), x.next(4), 0, 1, 2)
			for range 300 {
				m := api.Msg{Gen: x.next(4) - 1, Kind: x.next(18) - 1, Term: x.next(40) - 2, Index: x.next(9) - 1, Last: x.next(9) - 1, Commit: x.next(9) - 1, Yes: x.next(2) == 0}
				switch from := [][]api.Msg{own, foreign, nil}[x.next(3)]; {
				case len(from) > 0:
					m = from[x.next(len(from))]
				case x.next(4) > 0:
					m.From = x.next(11) - 1
				}
				if x.next(4) > 0 {
					m.To = p.id
				}
				p.step(m)
				p.tick(list(x.next(10), -x.next(99), math.MinInt, math.MaxInt)[x.next(4)])
				p.propose(api.Entry{Kind: api.KData, Client: 1, Seq: 1})
				p.propose(api.Entry{Kind: api.KConf, Client: 1, Seq: 2, Members: x.members(9)})
				if p.told(); x.next(20) == 0 {
					p.load()
				}
			}
		}
	}
}

// P3: the same calls in the same order answer the same.
func TestTwice(t *testing.T) {
	for _, kind := range kinds() {
		for seed := range 12 {
			var ends []string
			for range 2 {
				g := played(t, kind, seed)
				end := ""
				for _, p := range g.pairs {
					end += strconv.Itoa(p.x.Role()) + string(p.saved)
				}
				for _, m := range g.net {
					b, _ := wire.EncodeMsg(m)
					end += string(b)
				}
				ends = append(ends, end)
			}
			if ends[0] != ends[1] {
				t.Errorf("P3: kind %d, seed %d: the same script ends in two ways", kind, seed)
			}
		}
	}
}
