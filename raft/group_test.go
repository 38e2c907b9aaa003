package raft

import (
	"slices"
	"strconv"
	"testing"

	"synodal/api"
	"synodal/conf"
	"synodal/core"
	"synodal/wire"
)

// group is cores, what each has saved, what is under way, all that was committed, and who led each term. Whatever is done is held against the chapter's promises.
type group struct {
	t       *testing.T
	base    int
	members []int
	cores   []*Core
	saved   [][]byte
	net     []api.Msg
	lost    func(m api.Msg) bool // nil: nothing is lost
	all     []api.Entry
	led     map[int]int
	commits []int
	terms   []int
	roles   []int
	seq     int
}

// newGroup is a group of so many cores, of which these are members.
func newGroup(t *testing.T, count, base int, members ...int) *group {
	t.Helper()
	g := &group{t: t, base: base, members: members, led: map[int]int{}}
	for id := range count {
		x := newCore(t, id, base, members...)
		g.cores = append(g.cores, x)
		g.saved = append(g.saved, x.Save())
	}
	g.commits, g.terms, g.roles = make([]int, count), make([]int, count), make([]int, count)
	return g
}

func newCore(t *testing.T, id, base int, members ...int) *Core {
	t.Helper()
	x, e := New(id, members, base)
	if e != api.OK || x == nil {
		t.Fatalf("New(%d, %v, %d): %v", id, members, base, e)
	}
	return x
}

// lastOf tells the last index of what stands in a core's log.
func lastOf(x *Core, base int) int {
	last := base
	for {
		if _, ok := x.Entry(last + 1); !ok {
			return last
		}
		last++
	}
}

// configsOf tells which configuration counts at each index of a core's log, from base on, as the chapters 10 and 12 say it.
func (g *group) configsOf(x *Core) []api.Config {
	now := api.Config{New: g.members}
	out := []api.Config{now}
	for i := g.base + 1; i <= lastOf(x, g.base); i++ {
		switch e, _ := x.Entry(i); {
		case e.Kind == api.KConf && len(now.Old) == 0:
			now = api.Config{Old: now.New, New: e.Members}
		case e.Kind == api.KDone:
			now = api.Config{New: now.New}
		}
		out = append(out, now)
	}
	return out
}

// counts says whether a core is a member of a configuration that counts in its log from Commit() on.
func (g *group) counts(id int, x *Core) bool {
	return slices.ContainsFunc(g.configsOf(x)[x.Commit()-g.base:], func(c api.Config) bool { return conf.In(c, id) })
}

// settle saves a core, sends its messages, and holds all that it tells against what was told.
func (g *group) settle(id int) {
	g.t.Helper()
	x := g.cores[id]
	was := g.saved[id]
	g.saved[id] = x.Save()
	if len(g.saved[id]) > 11000 {
		g.t.Fatalf("P1201: Save: %d bytes", len(g.saved[id]))
	}
	for _, m := range x.Out() {
		checkSent(g.t, id, m)
		if m.To < len(g.cores) && (g.lost == nil || !g.lost(m)) {
			g.net = append(g.net, m)
		}
	}
	if out := x.Out(); len(out) > 0 {
		g.t.Fatalf("P1202: Out a second time: %v", out)
	}
	if slices.Equal(was, g.saved[id]) && x.Role() == g.roles[id] {
		return // it tells what it told
	}
	g.roles[id] = x.Role()
	g.checkOwn(id)
	g.checkCommitted(id)
	g.checkLeaders()
}

// checkSent says that a message is such as the chapter says.
func checkSent(t *testing.T, id int, m api.Msg) {
	t.Helper()
	if _, e := wire.EncodeMsg(m); e != api.OK || m.From != id || m.To == id || !core.IsNode(m.To) || m.Gen != 0 {
		t.Fatalf("core %d sends %+v: %v", id, m, e)
	}
}

// checkOwn holds what one core tells against itself and against what it told ahead.
func (g *group) checkOwn(id int) {
	g.t.Helper()
	x := g.cores[id]
	if x.Commit() < g.commits[id] || x.Term() < g.terms[id] {
		g.t.Fatalf("P1202: core %d goes back: commit %d, term %d", id, x.Commit(), x.Term())
	}
	g.commits[id], g.terms[id] = x.Commit(), x.Term()
	configs := g.configsOf(x)
	if got, want := x.Config(), configs[len(configs)-1]; !conf.Same(got, want) {
		g.t.Fatalf("P1202: core %d: Config %v, not %v", id, got, want)
	}
	if x.Role() != api.Follower && !g.counts(id, x) {
		g.t.Fatalf("P1204: core %d is of role %d, and no member of what counts from %d on", id, x.Role(), x.Commit())
	}
	seal := 0
	for i := g.base + 1; i <= x.Commit(); i++ {
		if e, _ := x.Entry(i); e.Kind == api.KMigrate {
			seal = i
			break
		}
	}
	if x.Sealed() != (seal > 0) || seal > 0 && x.Commit() != seal {
		g.t.Fatalf("P1204: core %d: sealed %v, at %d, commit %d", id, x.Sealed(), seal, x.Commit())
	}
}

// checkCommitted holds what a core knows to be committed against what was; what is new must stand in quorums' logs.
func (g *group) checkCommitted(id int) {
	g.t.Helper()
	x := g.cores[id]
	for i := g.base + 1; i <= x.Commit(); i++ {
		e, ok := x.Entry(i)
		if !ok {
			g.t.Fatalf("P1202: core %d has nothing at %d, committed up to %d", id, i, x.Commit())
		}
		if i > g.base+len(g.all) {
			g.all = append(g.all, e)
			g.checkQuorum(x, i, e)
		}
		if !wire.SameEntry(g.all[i-g.base-1], e) {
			g.t.Fatalf("P1205: core %d has %+v at %d, where %+v was committed", id, e, i, g.all[i-g.base-1])
		}
	}
}

// checkQuorum says that an entry that is committed now stands in the logs of enough members: of the newer list that counts where it stands; of both, if it is what made these two.
func (g *group) checkQuorum(x *Core, i int, e api.Entry) {
	g.t.Helper()
	c := g.configsOf(x)[i-g.base]
	if e.Kind != api.KConf {
		c.Old = nil
	}
	var have []int
	for id, other := range g.cores {
		if at, ok := other.Entry(i); ok && wire.SameEntry(at, e) {
			have = append(have, id)
		}
	}
	if !conf.Quorum(c, have) {
		g.t.Fatalf("P1204: %+v is committed at %d, of %v only %v have it", e, i, c, have)
	}
}

// checkLeaders says that of one term at most one leads, and that one whose term no core is above has all that was committed.
func (g *group) checkLeaders() {
	g.t.Helper()
	top := slices.Max(g.terms)
	for id, x := range g.cores {
		if x.Role() != api.Leader {
			continue
		}
		if who, ok := g.led[x.Term()]; ok && who != id {
			g.t.Fatalf("P1205: %d and %d lead the term %d", who, id, x.Term())
		}
		g.led[x.Term()] = id
		for k, e := range g.all {
			if at, ok := x.Entry(g.base + 1 + k); x.Term() == top && (!ok || !wire.SameEntry(at, e)) {
				g.t.Fatalf("P1205: core %d leads the term %d, and has not got %+v at %d", id, top, e, g.base+1+k)
			}
		}
	}
}

// tick lets one tick go by. Who counts nowhere must do nothing then.
func (g *group) tick(id, draw int) {
	g.t.Helper()
	x := g.cores[id]
	term := x.Term()
	x.Tick(draw)
	if x.Term() != term {
		if was, e := Load(id, g.saved[id]); e != api.OK || !g.counts(id, was) {
			g.t.Fatalf("P1204: core %d, which counts nowhere, stands", id)
		}
	}
	g.settle(id)
}

// deliver delivers the k-th message that is under way.
func (g *group) deliver(k int) {
	g.t.Helper()
	m := g.net[k]
	g.net = slices.Delete(g.net, k, k+1)
	g.cores[m.To].Step(m)
	g.settle(m.To)
}

// flow delivers all messages, those that come meanwhile, too.
func (g *group) flow() {
	g.t.Helper()
	for count := 0; len(g.net) > 0; count++ {
		if count == 2000 {
			g.t.Fatal("P1206: the cores send on and on")
		}
		g.deliver(0)
	}
}

// rounds are quiet rounds, unless something is lost.
func (g *group) rounds(count int) {
	g.t.Helper()
	for range count {
		for id := range g.cores {
			g.tick(id, 7*id%10)
		}
		g.flow()
	}
}

// load lets a core begin from what it saved last, whatever it did since.
func (g *group) load(id int) {
	g.t.Helper()
	x, e := Load(id, g.saved[id])
	if e != api.OK || x.Role() != api.Follower || len(x.Out()) > 0 {
		g.t.Fatalf("P1201: Load: %v", e)
	}
	g.cores[id] = x
	g.settle(id)
}

// propose hands an entry to a core, and holds what it answers against the log.
func (g *group) propose(id int, e api.Entry) (int, api.Errno) {
	g.t.Helper()
	x := g.cores[id]
	last, was := lastOf(x, g.base), x.Save()
	index, errno := x.Propose(e)
	at, ok := x.Entry(index)
	switch {
	case errno != api.OK && (index != 0 || !slices.Equal(x.Save(), was)):
		g.t.Fatalf("P1203: Propose(%+v): %d, %v, and the core is another one", e, index, errno)
	case errno == api.OK && (index != last+1 || !ok || !wire.SameEntry(at, e)):
		g.t.Fatalf("P1203: Propose(%+v): %d, where %+v stands", e, index, at)
	}
	g.settle(id)
	return index, errno
}

// must proposes an entry that must be taken.
func (g *group) must(id int, e api.Entry) int {
	g.t.Helper()
	index, errno := g.propose(id, e)
	if errno != api.OK {
		g.t.Fatalf("P1203: Propose(%+v): %v", e, errno)
	}
	return index
}

// data, change and migrate are requests that were not made yet.
func (g *group) data() api.Entry {
	g.seq++
	return api.Entry{Kind: api.KData, Client: 1, Seq: g.seq, Data: "d" + strconv.Itoa(g.seq)}
}

func (g *group) change(members ...int) api.Entry {
	g.seq++
	return api.Entry{Kind: api.KConf, Client: 2, Seq: g.seq, Members: members}
}

func (g *group) migrate() api.Entry {
	g.seq++
	return api.Entry{Kind: api.KMigrate, Client: 3, Seq: g.seq, To: api.Chain}
}

// leader tells the one that leads, if one alone does.
func (g *group) leader() int {
	g.t.Helper()
	var who []int
	for id, x := range g.cores {
		if x.Role() == api.Leader {
			who = append(who, id)
		}
	}
	if len(who) != 1 {
		g.t.Fatalf("P1206: these lead: %v", who)
	}
	return who[0]
}

// checkCalm holds the group against what must be behind 100 quiet rounds; it tells who leads.
func (g *group) checkCalm() int {
	g.t.Helper()
	id := g.leader()
	x := g.cores[id]
	if last := lastOf(x, g.base); x.Commit() != last || last != g.base+len(g.all) {
		g.t.Fatalf("P1206: core %d leads: commit %d, the log up to %d, committed up to %d", id, x.Commit(), last, g.base+len(g.all))
	}
	if conf.Joint(x.Config()) || !conf.In(x.Config(), id) {
		g.t.Fatalf("P1204: core %d leads by %v", id, x.Config())
	}
	for _, member := range conf.Members(x.Config()) {
		if y := g.cores[member]; y.Term() != x.Term() || y.Commit() != x.Commit() {
			g.t.Fatalf("P1206: core %d: term %d, commit %d, not %d, %d", member, y.Term(), y.Commit(), x.Term(), x.Commit())
		}
	}
	for other, y := range g.cores {
		if y.Term() > x.Term() {
			g.t.Fatalf("P1206: core %d leads the term %d, core %d is at %d", id, x.Term(), other, y.Term())
		}
	}
	return id
}

// checkGoes says that what the one that leads takes is committed at all members within 40 quiet rounds.
func (g *group) checkGoes(e api.Entry) {
	g.t.Helper()
	id := g.leader()
	index := g.must(id, e)
	g.rounds(40)
	for _, member := range conf.Members(g.cores[g.leader()].Config()) {
		if at, _ := g.cores[member].Entry(index); g.cores[member].Commit() < index || !wire.SameEntry(at, e) {
			g.t.Fatalf("P1206: core %d: commit %d, at %d %+v, not %+v", member, g.cores[member].Commit(), index, at, e)
		}
	}
}

// calm makes the group calm, and tells who leads.
func (g *group) calm() int {
	g.t.Helper()
	g.lost = nil
	g.rounds(100)
	return g.checkCalm()
}

// apart loses all messages between these and the others.
func (g *group) apart(ids ...int) {
	g.lost = func(m api.Msg) bool { return slices.Contains(ids, m.From) != slices.Contains(ids, m.To) }
	g.net = slices.DeleteFunc(g.net, g.lost)
}

// only loses all messages but those among these.
func (g *group) only(ids ...int) {
	g.lost = func(m api.Msg) bool { return !slices.Contains(ids, m.From) || !slices.Contains(ids, m.To) }
	g.net = slices.DeleteFunc(g.net, g.lost)
}

// leads makes a core lead that may: it alone ticks.
func (g *group) leads(id int) {
	g.t.Helper()
	for range 60 {
		if g.cores[id].Role() == api.Leader {
			return
		}
		g.tick(id, 0)
		g.flow()
	}
	g.t.Fatalf("core %d does not lead", id)
}
