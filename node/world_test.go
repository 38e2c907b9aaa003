package node

import (
	"slices"
	"strconv"
	"testing"

	"synodal/api"
	"synodal/client"
	"synodal/conf"
	"synodal/core"
	"synodal/engine"
	"synodal/tape"
	"synodal/wire"
)

// room is what a node's tape has room for.
const room = 400000

func list(l ...int) []int { return l }

// kinds are the engines.
func kinds() []int { return list(api.Raft, api.Chain) }

// generation is a first one.
func generation(kind int, members ...int) api.Generation {
	return api.Generation{N: 1, Engine: kind, Config: api.Config{New: members}}
}

func newTape(t *testing.T) *tape.Tape {
	t.Helper()
	return tapeFor(t, room)
}

// tapeFor is a tape for so many bytes.
func tapeFor(t *testing.T, size int) *tape.Tape {
	t.Helper()
	x, e := tape.New(size)
	if e != api.OK {
		t.Fatal(e)
	}
	return x
}

// twinTape is a tape with the same bytes: a node replaces them as a whole, so that all are synced.
func twinTape(t *testing.T, x *tape.Tape) *tape.Tape {
	t.Helper()
	y := newTape(t)
	if e := y.Replace(x.Bytes()); e != api.OK {
		t.Fatal(e)
	}
	return y
}

func newNode(t *testing.T, x *tape.Tape, id int, g api.Generation) *Node {
	t.Helper()
	n, e := New(x, id, g)
	if e != api.OK || n == nil {
		t.Fatalf("P2001: New(%d, %+v): %v", id, g, e)
	}
	return n
}

func open(t *testing.T, x *tape.Tape, id int) *Node {
	t.Helper()
	n, e := Open(x, id)
	if e != api.OK || n == nil {
		t.Fatalf("P2001: Open(%d): %v", id, e)
	}
	return n
}

// world is nodes, their tapes, what is under way, and all that was asked and told. Whatever is done is held against the chapter's promises.
type world struct {
	t       *testing.T
	first   api.Generation
	tapes   []*tape.Tape
	nodes   []*Node
	net     []api.Msg
	lost    func(m api.Msg) bool // nil: nothing is lost
	all     []api.Entry          // what was committed
	asked   []api.Entry          // what was called, but not refused for what it is
	commits []int                // of each node, what it told last
	ops     []int                // of each node's tape, when it was last looked at
	seqs    [api.MaxClient + 1]int
	looked  int            // how often what a node tells was held against its tape
	within  map[string]int // how often the power went within which call
	trace   []api.Event
}

// newWorld is so many nodes, of which these are members at first.
func newWorld(t *testing.T, count, kind int, members ...int) *world {
	t.Helper()
	w := &world{t: t, first: generation(kind, members...), within: map[string]int{}}
	for id := range count {
		x := newTape(t)
		w.tapes = append(w.tapes, x)
		w.nodes = append(w.nodes, newNode(t, x, id, w.first))
	}
	w.commits, w.ops = make([]int, count), make([]int, count)
	return w
}

// settle sends what a node has to send, and holds all that it tells against what was told.
func (w *world) settle(id int) {
	w.t.Helper()
	n := w.nodes[id]
	dead := w.tapes[id].Dead()
	for _, m := range n.Out() {
		if _, e := wire.EncodeMsg(m); e != api.OK || dead || m.From != id || m.Gen != n.Gen().N || m.To == id || !core.IsNode(m.To) {
			w.t.Fatalf("P2002: node %d, dead: %v, of generation %d, sends %+v: %v", id, dead, n.Gen().N, m, e)
		}
		if m.To < len(w.nodes) && (w.lost == nil || !w.lost(m)) {
			w.net = append(w.net, m)
		}
	}
	if out := n.Out(); len(out) > 0 {
		w.t.Fatalf("P2002: Out a second time: %+v", out)
	}
	w.checkCommitted(id)
	if w.ops[id] != w.tapes[id].Ops() || dead {
		w.ops[id] = w.tapes[id].Ops()
		w.checkTold(id)
		w.checkLasts(id)
	}
}

// checkCommitted holds what a node knows to be committed against what was told (T1, T2, T4).
func (w *world) checkCommitted(id int) {
	w.t.Helper()
	n := w.nodes[id]
	if n.Commit() < w.commits[id] {
		w.t.Fatalf("T2: node %d knew %d entries to be committed, and now %d", id, w.commits[id], n.Commit())
	}
	for i := 1; i <= n.Commit(); i++ {
		e, ok := n.Entry(i)
		if i > len(w.all) {
			w.checkAsked(e)
			w.all = append(w.all, e)
		}
		if !ok || !wire.SameEntry(e, w.all[i-1]) {
			w.t.Fatalf("T4: node %d has %+v, %v, at %d, where %+v was committed", id, e, ok, i, w.all[i-1])
		}
	}
	w.commits[id] = n.Commit()
	for _, i := range list(-1<<63, -1, 0, n.Commit()+1, n.Commit()+2, 1<<40) {
		if e, ok := n.Entry(i); ok || !wire.SameEntry(e, api.Entry{}) {
			w.t.Fatalf("P2003: node %d, of %d entries: at %d %+v, %v", id, n.Commit(), i, e, ok)
		}
	}
}

// checkAsked says that what is committed is a filler, or was asked for (T1).
func (w *world) checkAsked(e api.Entry) {
	w.t.Helper()
	if e.Kind == api.KNone || e.Kind == api.KDone {
		return
	}
	if !slices.ContainsFunc(w.asked, func(x api.Entry) bool { return wire.SameEntry(x, e) }) {
		w.t.Fatalf("T1: %+v is committed, and was never asked for", e)
	}
}

// checkTold holds what a node tells of what it knows against the chapter's words.
func (w *world) checkTold(id int) {
	w.t.Helper()
	n := w.nodes[id]
	front := w.all[:n.Commit()]
	table := client.New()
	for _, e := range front {
		table.Put(e)
	}
	if !slices.EqualFunc(n.Read(), table.All(), wire.SameEntry) {
		w.t.Fatalf("P2003: node %d reads %+v, not %+v", id, n.Read(), table.All())
	}
	for _, e := range w.asked {
		at, errno := n.Place(e.Client, e.Seq)
		want, why := table.Ask(e.Client, e.Seq)
		if w.tapes[id].Dead() {
			want, why = 0, api.ErrDead
		}
		if at != want || errno != why {
			w.t.Fatalf("P2003: node %d: %+v has the place %d, %v, not %d, %v", id, e, at, errno, want, why)
		}
	}
	w.checkGens(id, generations(w.t, w.first, front))
}

// checkGens holds the generations that a node tells against those that there are, and its engine against the last one.
func (w *world) checkGens(id int, want []api.Generation) {
	w.t.Helper()
	n := w.nodes[id]
	last := want[len(want)-1]
	if !slices.EqualFunc(n.Gens(), want, sameGeneration) || !sameGeneration(n.Gen(), last) {
		w.t.Fatalf("P2003: node %d: generations %+v, %+v, not %+v", id, n.Gens(), n.Gen(), want)
	}
	x := n.engine
	if x.Kind() != last.Engine || x.Commit() < last.Base || x.Commit() > n.Commit() {
		w.t.Fatalf("P2003: node %d: its engine is of kind %d, and knows %d; the generation is %+v, and it knows %d", id, x.Kind(), x.Commit(), last, n.Commit())
	}
	if n.Leads() != (x.Role() == api.Leader) || !slices.Equal(n.Members(), conf.Members(x.Config())) {
		w.t.Fatalf("P2003: node %d: leads %v, members %v", id, n.Leads(), n.Members())
	}
}

func sameGeneration(a, b api.Generation) bool {
	return a.N == b.N && a.Engine == b.Engine && a.Base == b.Base && conf.Same(a.Config, b.Config)
}

// generations are those that follow from what is committed: chapters 10 and 15 say who counts behind each entry.
func generations(t *testing.T, first api.Generation, log []api.Entry) []api.Generation {
	t.Helper()
	out := []api.Generation{first}
	now := first.Config
	for i, e := range log {
		last := out[len(out)-1]
		switch {
		case e.Kind == api.KConf && last.Engine == api.Raft:
			if next, errno := conf.Enter(now, e.Members); errno == api.OK {
				now = next
			}
		case e.Kind == api.KConf:
			now = api.Config{New: e.Members}
		case e.Kind == api.KDone:
			if next, errno := conf.Leave(now); errno == api.OK {
				now = next
			}
		case e.Kind == api.KMigrate:
			if conf.Joint(now) {
				t.Fatalf("T4: sealed at %d, while members change: %+v", i+1, log)
			}
			out = append(out, api.Generation{N: last.N + 1, Engine: e.To, Base: i + 1, Config: now})
		}
	}
	return out
}

// checkLasts says that all that a node tells rests on what is on its tape (W7): whoever opens that is the same node, but in a newer life.
func (w *world) checkLasts(id int) {
	w.t.Helper()
	w.looked++
	n := w.nodes[id]
	o := open(w.t, twinTape(w.t, w.tapes[id]), id)
	if o.Commit() != n.Commit() || !slices.EqualFunc(o.Read(), n.Read(), wire.SameEntry) || !slices.EqualFunc(o.Gens(), n.Gens(), sameGeneration) {
		w.t.Fatalf("W7: node %d tells %d entries, generations %+v; opened it tells %d, %+v", id, n.Commit(), n.Gens(), o.Commit(), o.Gens())
	}
	if !slices.Equal(o.engine.Save(), n.engine.Save()) {
		w.t.Fatalf("W7: node %d: its engine is another one when it is opened", id)
	}
	if o.life() != n.life()+1 {
		w.t.Fatalf("P2001: node %d, in life %d: opened it is in life %d", id, n.life(), o.life())
	}
}

// checkErrno says that a call tells ErrDead where the power is gone, or went within it, and there alone.
func (w *world) checkErrno(id int, call string, was bool, e api.Errno) {
	w.t.Helper()
	dead := w.tapes[id].Dead()
	if dead != (e == api.ErrDead) {
		w.t.Fatalf("P2002: node %d: %s: %v, the power is gone: %v", id, call, e, dead)
	}
	if dead && !was {
		w.within[call]++
	}
	w.settle(id)
}

// tick lets one tick go by.
func (w *world) tick(id, draw int) {
	w.t.Helper()
	was := w.tapes[id].Dead()
	w.checkErrno(id, "Tick", was, w.nodes[id].Tick(draw))
}

// deliver delivers the k-th message that is under way.
func (w *world) deliver(k int) {
	w.t.Helper()
	m := w.net[k]
	w.net = slices.Delete(w.net, k, k+1)
	was := w.tapes[m.To].Dead()
	w.checkErrno(m.To, "Step", was, w.nodes[m.To].Step(m))
}

// call asks a node for an entry.
func (w *world) call(id int, e api.Entry) api.Errno {
	w.t.Helper()
	if core.Unfit(e) == nil {
		w.asked = append(w.asked, e)
	}
	was := w.tapes[id].Dead()
	errno := w.nodes[id].Call(e)
	w.checkErrno(id, "Call", was, errno)
	return errno
}

// must asks a node for an entry that must be taken.
func (w *world) must(id int, e api.Entry) {
	w.t.Helper()
	if errno := w.call(id, e); errno != api.OK {
		w.t.Fatalf("P2002: node %d: Call(%+v): %v", id, e, errno)
	}
}

// round is a quiet round (W6), unless something is lost.
func (w *world) round() {
	w.t.Helper()
	for id := range w.nodes {
		w.tick(id, 7*id%10)
	}
	for count := 0; len(w.net) > 0; count++ {
		if count == 2000 {
			w.t.Fatal("W6: the nodes send on and on")
		}
		w.deliver(0)
	}
}

func (w *world) rounds(count int) {
	w.t.Helper()
	for range count {
		w.round()
	}
}

// reopen opens a node anew, whatever of what is not synced stays.
func (w *world) reopen(id, pick int) {
	w.t.Helper()
	w.tapes[id].Crash(pick)
	life, commit := w.nodes[id].life(), w.nodes[id].Commit()
	n := open(w.t, w.tapes[id], id)
	if n.life() <= life || n.Commit() < commit || n.Leads() || len(n.Out()) > 0 {
		w.t.Fatalf("P2001: node %d, in life %d, of %d entries: opened it is in life %d, of %d", id, life, commit, n.life(), n.Commit())
	}
	w.nodes[id] = n
	w.settle(id)
}

// request is an entry of a client's that was not asked for yet.
func (w *world) request(of int, e api.Entry) api.Entry {
	w.seqs[of]++
	e.Client, e.Seq = of, w.seqs[of]
	return e
}

func (w *world) data() api.Entry {
	return w.request(1, api.Entry{Kind: api.KData, Data: "d" + strconv.Itoa(w.seqs[1])})
}

func (w *world) change(members ...int) api.Entry {
	return w.request(2, api.Entry{Kind: api.KConf, Members: members})
}

func (w *world) migrate(to int) api.Entry {
	return w.request(3, api.Entry{Kind: api.KMigrate, To: to})
}

// leader tells the one that leads, if one alone does.
func (w *world) leader() int {
	w.t.Helper()
	var who []int
	for id, n := range w.nodes {
		if n.Leads() {
			who = append(who, id)
		}
	}
	if len(who) != 1 {
		w.t.Fatalf("T5: these lead: %v", who)
	}
	return who[0]
}

// checkCalm holds the nodes against T5: one leads, and all others, members or not, know what it has committed (P2004); it tells who leads.
func (w *world) checkCalm() int {
	w.t.Helper()
	id := w.leader()
	for other, n := range w.nodes {
		if n.Commit() != len(w.all) || n.Gen().N != w.nodes[id].Gen().N {
			w.t.Fatalf("P2004: node %d knows %d of %d entries", other, n.Commit(), len(w.all))
		}
	}
	return id
}

// calm makes the nodes calm, and tells who leads.
func (w *world) calm() int {
	w.t.Helper()
	w.lost = nil
	w.rounds(120)
	return w.checkCalm()
}

// goes says that what the one that leads takes has its place at all nodes within 60 quiet rounds.
func (w *world) goes(e api.Entry) {
	w.t.Helper()
	w.must(w.leader(), e)
	w.rounds(60)
	for id, n := range w.nodes {
		at, errno := n.Place(e.Client, e.Seq)
		if read := n.Read(); errno != api.OK || at > len(read) || !wire.SameEntry(read[at-1], e) {
			w.t.Fatalf("T5: node %d: %+v has the place %d, %v", id, e, at, errno)
		}
	}
}

// apart loses all messages between these and the others.
func (w *world) apart(ids ...int) {
	w.lost = func(m api.Msg) bool { return slices.Contains(ids, m.From) != slices.Contains(ids, m.To) }
	w.net = slices.DeleteFunc(w.net, w.lost)
}

// engineOf is the engine alone that a generation begins with, to hold a node against.
func engineOf(t *testing.T, id int, g api.Generation) *engine.Engine {
	t.Helper()
	x, e := engine.New(g.Engine, id, g.Config.New, g.Base)
	if e != api.OK {
		t.Fatal(e)
	}
	return x
}
