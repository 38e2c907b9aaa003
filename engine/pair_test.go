package engine

import (
	"math"
	"slices"
	"testing"

	"synodal/api"
	"synodal/chain"
	"synodal/conf"
	"synodal/raft"
	"synodal/wire"
)

func list(numbers ...int) []int { return numbers }

// kinds are the kinds that there are.
func kinds() []int { return list(api.Raft, api.Chain) }

// other is the kind that a kind is not.
func other(kind int) int { return api.Raft + api.Chain - kind }

// newCore and loadCore make the core of a kind without an engine around it.
func newCore(kind, id int, members []int, base int) (machine, api.Errno) {
	if kind == api.Raft {
		return raft.New(id, members, base)
	}
	return chain.New(id, members, base)
}

func loadCore(kind, id int, b []byte) (machine, api.Errno) {
	if kind == api.Raft {
		return raft.Load(id, b)
	}
	return chain.Load(id, b)
}

// pair is an engine, and the core of its kind beside it: whatever is done is done with both, and both must answer the same.
type pair struct {
	t        *testing.T
	kind, id int
	x        *Engine
	core     machine
	saved    []byte
}

func newPair(t *testing.T, kind, id, base int, members ...int) *pair {
	t.Helper()
	x, e := New(kind, id, members, base)
	core, _ := newCore(kind, id, members, base)
	if e != api.OK || x == nil {
		t.Fatalf("P1601: New(%d, %d, %v, %d): %v", kind, id, members, base, e)
	}
	p := &pair{t: t, kind: kind, id: id, x: x, core: core}
	p.told()
	return p
}

// told holds all that the engine tells against what the core does, and answers the messages.
func (p *pair) told() []api.Msg {
	p.t.Helper()
	x, core := p.x, p.core
	if x.Kind() != p.kind {
		p.t.Fatalf("P1601: Kind %d of an engine of kind %d", x.Kind(), p.kind)
	}
	p.saved = x.Save()
	if !slices.Equal(p.saved, core.Save()) {
		p.t.Fatalf("P1602: kind %d saves %d bytes, its core other ones", p.kind, len(p.saved))
	}
	if x.Commit() != core.Commit() || x.Role() != core.Role() || x.Term() != core.Term() {
		p.t.Fatalf("P1602: kind %d: commit %d, role %d, term %d, its core's %d, %d, %d", p.kind, x.Commit(), x.Role(), x.Term(), core.Commit(), core.Role(), core.Term())
	}
	if x.Sealed() != core.Sealed() || !conf.Same(x.Config(), core.Config()) {
		p.t.Fatalf("P1602: kind %d: sealed %v, %v, its core's %v, %v", p.kind, x.Sealed(), x.Config(), core.Sealed(), core.Config())
	}
	p.checkEntries()
	out, want := x.Out(), core.Out()
	if !slices.EqualFunc(out, want, wire.SameMsg) {
		p.t.Fatalf("P1602: kind %d sends %+v, its core %+v", p.kind, out, want)
	}
	if again := x.Out(); len(again) > 0 {
		p.t.Fatalf("P1602: kind %d sends %+v a second time", p.kind, again)
	}
	return out
}

// checkEntries asks for what stands at every index, those where nothing may stand, too.
func (p *pair) checkEntries() {
	p.t.Helper()
	indexes := list(math.MinInt, -1, api.MaxLog+1, math.MaxInt)
	for i := range api.MaxLog + 1 {
		indexes = append(indexes, i)
	}
	for _, i := range indexes {
		e, is := p.x.Entry(i)
		want, was := p.core.Entry(i)
		if is != was || !wire.SameEntry(e, want) {
			p.t.Fatalf("P1602: kind %d has %+v, %v at %d, its core %+v, %v", p.kind, e, is, i, want, was)
		}
	}
}

func (p *pair) tick(draw int) []api.Msg {
	p.t.Helper()
	p.x.Tick(draw)
	p.core.Tick(draw)
	return p.told()
}

func (p *pair) step(m api.Msg) []api.Msg {
	p.t.Helper()
	p.x.Step(m)
	p.core.Step(m)
	return p.told()
}

// propose tells what both answer, and leaves what they send to whoever asks then.
func (p *pair) propose(e api.Entry) (int, api.Errno) {
	p.t.Helper()
	index, errno := p.x.Propose(e)
	want, wanted := p.core.Propose(e)
	if index != want || errno != wanted {
		p.t.Fatalf("P1602: kind %d: Propose(%+v): %d, %v, its core %d, %v", p.kind, e, index, errno, want, wanted)
	}
	if errno != api.OK && !slices.Equal(p.x.Save(), p.saved) {
		p.t.Fatalf("P5: kind %d: Propose(%+v): %v, and it is another one", p.kind, e, errno)
	}
	return index, errno
}

// load lets both begin from what they saved last.
func (p *pair) load() []api.Msg {
	p.t.Helper()
	x, e := Load(p.kind, p.id, p.saved)
	core, _ := loadCore(p.kind, p.id, p.saved)
	if e != api.OK || x.Role() != api.Follower {
		p.t.Fatalf("P1601: Load of what an engine of kind %d saved: %v", p.kind, e)
	}
	p.x, p.core = x, core
	return p.told()
}

// ticks lets so many ticks go by; what is sent is lost.
func (p *pair) ticks(count int) {
	p.t.Helper()
	for range count {
		p.tick(0)
	}
}
