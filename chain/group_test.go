package chain

import (
	"slices"
	"strconv"
	"testing"

	"synodal/api"
	"synodal/conf"
	"synodal/core"
	"synodal/wire"
)

// given is an entry that a Leader took, and the index that it answered.
type given struct {
	index int
	entry api.Entry
}

// group is cores, what each has saved, what is under way, all that was committed, who led in each term, and what it took. Whatever is done is held against the chapter's promises.
type group struct {
	t         *testing.T
	base      int
	first     []int
	cores     []*Core
	saved     [][]byte
	net       []api.Msg
	lost      func(m api.Msg) bool // nil: nothing is lost
	all       []api.Entry
	led       map[int]int
	given     map[int][]given // by term
	commits   []int
	terms     []int
	roles     []int
	instances []int
	seq       int
}

// newGroup is a group of so many cores, of which these are members at first.
func newGroup(t *testing.T, count, base int, members ...int) *group {
	t.Helper()
	g := &group{t: t, base: base, first: members, led: map[int]int{}, given: map[int][]given{}}
	for id := range count {
		x := newCore(t, id, base, members...)
		g.cores = append(g.cores, x)
		g.saved = append(g.saved, x.Save())
		g.instances = append(g.instances, 1)
	}
	g.commits, g.terms, g.roles = make([]int, count), make([]int, count), make([]int, count)
	return g
}

func newCore(t *testing.T, id, base int, members ...int) *Core {
	t.Helper()
	x, e := New(id, members, base)
	if e != api.OK || x == nil {
		t.Fatalf("New(%d, %v, %d): %v", id, members, base, e)
	}
	return x
}

// settle saves a core, sends its messages, and holds all that it tells against what was told.
func (g *group) settle(id int) {
	g.t.Helper()
	x := g.cores[id]
	was := g.saved[id]
	g.saved[id] = x.Save()
	if len(g.saved[id]) > 11000 {
		g.t.Fatalf("P1501: Save: %d bytes", len(g.saved[id]))
	}
	for _, m := range x.Out() {
		checkSent(g.t, id, m)
		if m.To < len(g.cores) && (g.lost == nil || !g.lost(m)) {
			g.net = append(g.net, m)
		}
	}
	if out := x.Out(); len(out) > 0 {
		g.t.Fatalf("P1501: Out a second time: %v", out)
	}
	if slices.Equal(was, g.saved[id]) && x.Role() == g.roles[id] {
		return // it tells what it told
	}
	g.roles[id] = x.Role()
	g.checkOwn(id)
	g.checkCommitted(id)
	g.checkGiven(id)
	g.checkLeaders()
}

// checkSent says that a message is such as the document says.
func checkSent(t *testing.T, id int, m api.Msg) {
	t.Helper()
	if _, e := wire.EncodeMsg(m); e != api.OK || m.From != id || m.To == id || !core.IsNode(m.To) || m.Gen != 0 {
		t.Fatalf("core %d sends %+v: %v", id, m, e)
	}
}

// checkOwn holds what one core tells against itself and against what it told ahead.
func (g *group) checkOwn(id int) {
	g.t.Helper()
	x := g.cores[id]
	if x.Commit() < max(g.base, g.commits[id]) || x.Term() < g.terms[id] || x.Instances() < g.instances[id] {
		g.t.Fatalf("P1501: core %d goes back: commit %d, term %d, %d instances", id, x.Commit(), x.Term(), x.Instances())
	}
	g.commits[id], g.terms[id], g.instances[id] = x.Commit(), x.Term(), x.Instances()
	members, instances := g.first, 1
	for i := g.base + 1; i <= x.Commit(); i++ {
		e, _ := x.Entry(i)
		if e.Kind == api.KConf {
			members, instances = e.Members, instances+1
		}
		if e.Kind == api.KMigrate && i < x.Commit() {
			g.t.Fatalf("P1501: core %d: commit %d, behind a seal at %d", id, x.Commit(), i)
		}
	}
	if !conf.Same(x.Config(), api.Config{New: members}) || x.Instances() != instances {
		g.t.Fatalf("P1501: core %d: %v, %d instances, not %v, %d", id, x.Config(), x.Instances(), members, instances)
	}
	if x.Role() != api.Follower && !slices.Contains(members, id) {
		g.t.Fatalf("P1501: core %d is of role %d, and no member", id, x.Role())
	}
	if e, _ := x.Entry(x.Commit()); x.Sealed() != (e.Kind == api.KMigrate) {
		g.t.Fatalf("P1501: core %d: sealed %v, the last one is %+v", id, x.Sealed(), e)
	}
	for _, i := range list(g.base-1, g.base, x.Commit()+1, x.Commit()+2, 65) {
		if e, ok := x.Entry(i); ok || !wire.SameEntry(e, api.Entry{}) {
			g.t.Fatalf("P1501: core %d: committed from %d to %d, at %d %+v", id, g.base+1, x.Commit(), i, e)
		}
	}
}

// checkCommitted holds what a core knows to be committed against what was; for what is new enough members must have voted.
func (g *group) checkCommitted(id int) {
	g.t.Helper()
	x := g.cores[id]
	for i := g.base + 1; i <= x.Commit(); i++ {
		e, ok := x.Entry(i)
		if !ok {
			g.t.Fatalf("P1501: core %d has nothing at %d, committed up to %d", id, i, x.Commit())
		}
		if i > g.base+len(g.all) {
			g.checkQuorum(i, e)
			g.all = append(g.all, e)
		}
		if !wire.SameEntry(g.all[i-g.base-1], e) {
			g.t.Fatalf("P1503: core %d has %+v at %d, where %+v was committed", id, e, i, g.all[i-g.base-1])
		}
	}
}

// members are those of the instance behind all that was committed.
func (g *group) members() []int {
	out := g.first
	for _, e := range g.all {
		if e.Kind == api.KConf {
			out = e.Members
		}
	}
	return out
}

// checkQuorum says that enough members of its instance have an entry that is committed now: they voted for it, or know that it is.
func (g *group) checkQuorum(i int, e api.Entry) {
	g.t.Helper()
	var have []int
	for id, x := range g.cores {
		at, ok := x.Entry(i)
		if vote, slot := voteOf(g.t, x); slot == i {
			at, ok = vote, true
		}
		if ok && wire.SameEntry(at, e) {
			have = append(have, id)
		}
	}
	if !conf.Quorum(api.Config{New: g.members()}, have) {
		g.t.Fatalf("P1503: %+v is committed at %d, of %v only %v have it", e, i, g.members(), have)
	}
}

// voteOf tells what a core has voted for last, and at which index, from what lasts of its last instance; 0, if there is nothing.
func voteOf(t *testing.T, x *Core) (api.Entry, int) {
	t.Helper()
	frames, _, _ := wire.Split(x.last.Save())
	m, e := wire.ParseMsg(frames[0])
	if e != api.OK {
		t.Fatal(e)
	}
	if len(m.Terms) == 0 {
		return api.Entry{}, 0
	}
	return m.Entries[m.Commit-m.Index], m.Commit + 1
}

// checkGiven says that what one that leads took, and has got committed, stands where it answered.
func (g *group) checkGiven(id int) {
	g.t.Helper()
	x := g.cores[id]
	if x.Role() != api.Leader {
		return
	}
	for _, took := range g.given[x.Term()] {
		if e, ok := x.Entry(took.index); ok && !wire.SameEntry(e, took.entry) {
			g.t.Fatalf("P1502: core %d took %+v as %d, where %+v is committed", id, took.entry, took.index, e)
		}
	}
}

// checkLeaders says that of one term at most one leads, and that one whose term no core is above has all that was committed.
func (g *group) checkLeaders() {
	g.t.Helper()
	top := slices.Max(g.terms)
	for id, x := range g.cores {
		if x.Role() != api.Leader {
			continue
		}
		if who, ok := g.led[x.Term()]; ok && who != id {
			g.t.Fatalf("P1501: %d and %d lead in the term %d", who, id, x.Term())
		}
		g.led[x.Term()] = id
		if x.Term() == top && x.Commit() != g.base+len(g.all) {
			g.t.Fatalf("P1503: core %d leads in the term %d: commit %d, not %d", id, top, x.Commit(), g.base+len(g.all))
		}
	}
}

// tick lets one tick go by.
func (g *group) tick(id, draw int) {
	g.t.Helper()
	g.cores[id].Tick(draw)
	g.settle(id)
}

// deliver delivers the k-th message that is under way.
func (g *group) deliver(k int) {
	g.t.Helper()
	m := g.net[k]
	g.net = slices.Delete(g.net, k, k+1)
	g.cores[m.To].Step(m)
	g.settle(m.To)
}

// flow delivers all messages, those that come meanwhile, too.
func (g *group) flow() {
	g.t.Helper()
	for count := 0; len(g.net) > 0; count++ {
		if count == 2000 {
			g.t.Fatal("P1503: the cores send on and on")
		}
		g.deliver(0)
	}
}

// rounds are quiet rounds, unless something is lost.
func (g *group) rounds(count int) {
	g.t.Helper()
	for range count {
		for id := range g.cores {
			g.tick(id, 7*id%10)
		}
		g.flow()
	}
}

// load lets a core begin from what it saved last, whatever it did since.
func (g *group) load(id int) {
	g.t.Helper()
	x, e := Load(id, g.saved[id])
	if e != api.OK || x.Role() != api.Follower || len(x.Out()) > 0 {
		g.t.Fatalf("P1501: Load: %v", e)
	}
	g.cores[id] = x
	g.settle(id)
}

// loadAll loads all cores at once.
func (g *group) loadAll() {
	g.t.Helper()
	for id := range g.cores {
		g.load(id)
	}
}

// waiting is how many entries one that leads took, and has not got committed.
func (g *group) waiting(x *Core) int {
	count := 0
	for _, took := range g.given[x.Term()] {
		if took.index > x.Commit() {
			count++
		}
	}
	return count
}

// propose hands an entry to a core, and holds what it answers against what it took and has not got committed.
func (g *group) propose(id int, e api.Entry) (int, api.Errno) {
	g.t.Helper()
	x := g.cores[id]
	was, role, posts, term := x.Save(), x.Role(), len(x.out), x.Term()
	want := x.Commit() + g.waiting(x) + 1
	index, errno := x.Propose(e)
	switch {
	case errno != api.OK && (index != 0 || !slices.Equal(x.Save(), was) || x.Role() != role || len(x.out) != posts):
		g.t.Fatalf("P1502: Propose(%+v): %d, %v, and the core is another one", e, index, errno)
	case errno == api.OK && (index != want || role != api.Leader):
		g.t.Fatalf("P1502: Propose(%+v): %d, not %d; role %d", e, index, want, role)
	case errno == api.OK:
		g.given[term] = append(g.given[term], given{index, e})
	}
	g.settle(id)
	return index, errno
}

// must proposes an entry that must be taken.
func (g *group) must(id int, e api.Entry) int {
	g.t.Helper()
	index, errno := g.propose(id, e)
	if errno != api.OK {
		g.t.Fatalf("P1502: Propose(%+v): %v", e, errno)
	}
	return index
}

// data, change and migrate are requests that were not made yet.
func (g *group) data() api.Entry {
	g.seq++
	return api.Entry{Kind: api.KData, Client: 1, Seq: g.seq, Data: "d" + strconv.Itoa(g.seq)}
}

func (g *group) change(members ...int) api.Entry {
	g.seq++
	return api.Entry{Kind: api.KConf, Client: 2, Seq: g.seq, Members: members}
}

func (g *group) migrate() api.Entry {
	g.seq++
	return api.Entry{Kind: api.KMigrate, Client: 3, Seq: g.seq, To: api.Raft}
}

// leader tells the one that leads, if one alone does.
func (g *group) leader() int {
	g.t.Helper()
	var who []int
	for id, x := range g.cores {
		if x.Role() == api.Leader {
			who = append(who, id)
		}
	}
	if len(who) != 1 {
		g.t.Fatalf("P1503: these lead: %v", who)
	}
	return who[0]
}

// checkCalm holds the group against what must be behind 100 quiet rounds; it tells who leads. All cores know what that one does, members or not.
func (g *group) checkCalm() int {
	g.t.Helper()
	id := g.leader()
	x := g.cores[id]
	if g.waiting(x) > 0 || x.Commit() != g.base+len(g.all) || !slices.Contains(g.members(), id) {
		g.t.Fatalf("P1503: core %d leads: commit %d, not %d, and %d wait; members %v", id, x.Commit(), g.base+len(g.all), g.waiting(x), g.members())
	}
	for _, member := range g.members() {
		if g.cores[member].Term() != x.Term() {
			g.t.Fatalf("P1503: core %d leads in the term %d, that of member %d is %d", id, x.Term(), member, g.cores[member].Term())
		}
	}
	for other, y := range g.cores {
		if y.Term() > x.Term() || y.Commit() != x.Commit() || y.Instances() != x.Instances() {
			g.t.Fatalf("P1503: core %d leads: term %d, commit %d; core %d: %d, %d", id, x.Term(), x.Commit(), other, y.Term(), y.Commit())
		}
	}
	return id
}

// checkGoes says that what the one that leads takes is committed at all members, elder and newer ones, within 40 quiet rounds.
func (g *group) checkGoes(e api.Entry) {
	g.t.Helper()
	index := g.must(g.leader(), e)
	elder := g.members()
	g.rounds(40)
	for _, member := range slices.Concat(elder, e.Members) {
		if at, ok := g.cores[member].Entry(index); !ok || !wire.SameEntry(at, e) {
			g.t.Fatalf("P1503: core %d: commit %d, at %d %+v, not %+v", member, g.cores[member].Commit(), index, at, e)
		}
	}
}

// calm makes the group calm, and tells who leads.
func (g *group) calm() int {
	g.t.Helper()
	g.lost = nil
	g.rounds(100)
	return g.checkCalm()
}

// handOn lets the one that leads propose other members, and makes the group calm; it tells who leads then.
func (g *group) handOn(members ...int) int {
	g.t.Helper()
	g.checkGoes(g.change(members...))
	return g.calm()
}

// apart loses all messages between these and the others.
func (g *group) apart(ids ...int) {
	g.lost = func(m api.Msg) bool { return slices.Contains(ids, m.From) != slices.Contains(ids, m.To) }
	g.net = slices.DeleteFunc(g.net, g.lost)
}

// only loses all messages but those among these.
func (g *group) only(ids ...int) {
	g.lost = func(m api.Msg) bool { return !slices.Contains(ids, m.From) || !slices.Contains(ids, m.To) }
	g.net = slices.DeleteFunc(g.net, g.lost)
}

// leads makes a core lead that may: it alone ticks.
func (g *group) leads(id int) {
	g.t.Helper()
	for range 60 {
		if g.cores[id].Role() == api.Leader {
			return
		}
		g.tick(id, 0)
		g.flow()
	}
	g.t.Fatalf("core %d does not lead", id)
}
