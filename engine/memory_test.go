package engine

import (
	"slices"
	"testing"

	"synodal/api"
	"synodal/wire"
)

// roomy is a list of numbers with something in its spare room.
func roomy(numbers ...int) []int {
	return append(slices.Clone(numbers), 4711, 4711, 4711)[:len(numbers)]
}

// whole is a list with its spare room.
func whole[E any](l []E) []E { return l[:cap(l)] }

// scrawl writes over lists of numbers and their spare room.
func scrawl(lists ...[]int) {
	for _, l := range lists {
		for i := range whole(l) {
			whole(l)[i] = -33
		}
	}
}

func scrawlBytes(b []byte) {
	for i := range whole(b) {
		whole(b)[i] = 33
	}
}

// scrawlMsgs writes over messages, all their lists, and the spare room of all of these.
func scrawlMsgs(l []api.Msg) {
	for i, m := range whole(l) {
		scrawl(m.Terms, m.Config.Old, m.Config.New)
		for k, e := range whole(m.Entries) {
			scrawl(e.Members)
			whole(m.Entries)[k] = api.Entry{Kind: -33, Data: "scrawl", Members: list(-33)}
		}
		whole(l)[i] = api.Msg{From: -33, Kind: -33, Terms: list(-33)}
	}
}

// withRoom is a message in memory of its own, whose lists have something in their spare room.
func withRoom(m api.Msg) api.Msg {
	m.Terms, m.Config.Old, m.Config.New = roomy(m.Terms...), roomy(m.Config.Old...), roomy(m.Config.New...)
	var l []api.Entry
	for _, e := range m.Entries {
		e.Members = roomy(e.Members...)
		l = append(l, e)
	}
	m.Entries = append(l, api.Entry{Data: "spare", Members: roomy(7)}, api.Entry{Data: "spare"})[:len(l)]
	return m
}

// unfolded is a message with the spare room of its lists, as if that were of them, in memory of its own.
func unfolded(m api.Msg) api.Msg {
	m.Terms, m.Config.Old, m.Config.New = slices.Clone(whole(m.Terms)), slices.Clone(whole(m.Config.Old)), slices.Clone(whole(m.Config.New))
	m.Entries = slices.Clone(whole(m.Entries))
	for i := range m.Entries {
		m.Entries[i].Members = slices.Clone(whole(m.Entries[i].Members))
	}
	return m
}

// P2: what is handed in by Step, with its spare room, is neither changed nor kept: one engine is handed messages that are written over then, another one is not, and both do the same.
func TestStepKeepsNothing(t *testing.T) {
	for _, kind := range kinds() {
		with := 0
		for seed := range 24 {
			g := played(t, kind, seed)
			x, _ := New(kind, 1, list(0, 1, 2), g.base)
			y, _ := New(kind, 1, list(0, 1, 2), g.base)
			for _, m := range g.sent {
				m.To = 1
				with += len(m.Entries)
				handed := withRoom(m)
				was := unfolded(handed)
				x.Step(handed)
				if !wire.SameMsg(unfolded(handed), was) {
					t.Fatalf("P2: kind %d: what was handed in is now %+v", kind, unfolded(handed))
				}
				scrawlMsgs([]api.Msg{handed})
				y.Step(m)
				if !slices.EqualFunc(x.Out(), y.Out(), wire.SameMsg) || !slices.Equal(x.Save(), y.Save()) {
					t.Fatalf("P2: kind %d: what is written over what was handed in is to be seen", kind)
				}
			}
		}
		if with < 100 {
			t.Errorf("kind %d: too little is asked: %d entries", kind, with)
		}
	}
}

// P2: the members, the bytes and the entries that are handed in, with their spare room, are neither changed nor kept.
func TestHandedInIsNotKept(t *testing.T) {
	for _, kind := range kinds() {
		members := roomy(0)
		x, _ := New(kind, 0, members, 0)
		for range 20 {
			x.Tick(0)
		}
		e := api.Entry{Kind: api.KConf, Client: 1, Seq: 1, Members: roomy(0, 2)}
		if _, errno := x.Propose(e); errno != api.OK {
			t.Fatal(errno)
		}
		if !slices.Equal(whole(members)[:4], list(0, 4711, 4711, 4711)) || !slices.Equal(whole(e.Members)[:5], list(0, 2, 4711, 4711, 4711)) {
			t.Errorf("P2: kind %d: what was handed in is now %v, %v", kind, whole(members), whole(e.Members))
		}
		was := x.Save()
		b := append(slices.Clone(was), "spare"...)[:len(was)]
		y, errno := Load(kind, 0, b)
		if errno != api.OK || string(b) != string(was) || string(whole(b)[len(b):len(b)+5]) != "spare" {
			t.Errorf("P2: kind %d: Load: %v, and it changed bytes", kind, errno)
		}
		scrawl(members, e.Members)
		scrawlBytes(b)
		for _, z := range []*Engine{x, y} {
			at, _ := z.Entry(1)
			if !slices.Equal(z.Config().New, list(0, 2)) || !slices.Equal(at.Members, list(0, 2)) || !slices.Equal(z.Save(), was) {
				t.Errorf("P2: kind %d: what is written over what was handed in is to be seen: %v, %v", kind, z.Config(), at)
			}
		}
	}
}

// P2: what an engine tells is new memory: one is asked, and all that it tells is written over; another one is not, and both do the same.
func TestToldIsOwn(t *testing.T) {
	for _, kind := range kinds() {
		for seed := range 24 {
			g := played(t, kind, seed)
			for _, p := range g.pairs {
				out := p.x.Out()
				for tick := range 30 {
					c, other := p.x.Config(), p.x.Config()
					scrawl(c.Old, c.New)
					if !slices.Equal(other.New, p.core.Config().New) || !slices.Equal(other.Old, p.core.Config().Old) {
						t.Fatalf("P2: kind %d: two answers share memory: %v", kind, other)
					}
					for i := range p.x.Commit() + 1 {
						e, _ := p.x.Entry(i)
						scrawl(e.Members)
					}
					scrawlBytes(p.x.Save())
					scrawlMsgs(out)
					p.told()
					p.x.Tick(tick)
					p.core.Tick(tick)
					p.x.Propose(api.Entry{Kind: api.KConf, Client: 1, Seq: tick + 1, Members: list(tick % 9)})
					p.core.Propose(api.Entry{Kind: api.KConf, Client: 1, Seq: tick + 1, Members: list(tick % 9)})
					out = p.x.Out()
					if !slices.EqualFunc(out, p.core.Out(), wire.SameMsg) {
						t.Fatalf("P2: kind %d: what is written over what was told is told", kind)
					}
				}
			}
		}
	}
}

// P2: messages that were handed out stay as they are, whatever the engine does then.
func TestOutStays(t *testing.T) {
	for _, kind := range kinds() {
		x, _ := New(kind, 0, list(0), 0)
		for range 20 {
			x.Tick(0)
		}
		x.Propose(api.Entry{Kind: api.KData, Client: 1, Seq: 1, Data: "a"})
		x.Propose(api.Entry{Kind: api.KConf, Client: 1, Seq: 2, Members: list(0, 2)})
		for range 8 {
			x.Tick(0)
		}
		out := x.Out()
		if len(out) == 0 {
			t.Fatalf("kind %d tells nobody", kind)
		}
		var were []api.Msg
		for _, m := range out {
			were = append(were, unfolded(withRoom(m)))
		}
		for range 30 {
			x.Tick(0)
			x.Propose(api.Entry{Kind: api.KData, Client: 1, Seq: 3, Data: "b"})
			scrawlMsgs(x.Out())
		}
		for i, m := range out {
			if !wire.SameMsg(unfolded(withRoom(m)), were[i]) {
				t.Errorf("P2: kind %d: a message is another one behind a later call: %+v", kind, m)
			}
		}
	}
}
