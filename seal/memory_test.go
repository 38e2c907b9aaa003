package seal

import (
	"bytes"
	"slices"
	"testing"

	"synodal/api"
)

// spare stands in the spare room of all that is handed in.
const spare = 4711

// roomy is a list of numbers with something in its spare room.
func roomy(numbers ...int) []int {
	return append(slices.Clone(numbers), spare, spare, spare)[:len(numbers)]
}

// roomyConfig is one of these members, whose lists have something in their spare room.
func roomyConfig(ids ...int) api.Config { return api.Config{Old: roomy(), New: roomy(ids...)} }

// whole is a list with its spare room.
func whole[E any](l []E) []E { return l[:cap(l)] }

// scrawl writes over lists of numbers and their spare room.
func scrawl(lists ...[]int) {
	for _, l := range lists {
		for i := range whole(l) {
			whole(l)[i] = -33
		}
	}
}

// scrawlGens writes over generations, their lists, and the spare room of all of these.
func scrawlGens(l ...api.Generation) {
	for i, x := range whole(l) {
		scrawl(x.Config.Old, x.Config.New)
		whole(l)[i] = gen(-33, -33, -33, -33)
	}
}

// checkHanded says that a configuration, with its spare room, is still what it was when it was handed in.
func checkHanded(t *testing.T, what string, c api.Config, ids ...int) {
	t.Helper()
	if want := append(ids, spare, spare, spare); !slices.Equal(whole(c.Old)[:3], list(spare, spare, spare)) || !slices.Equal(whole(c.New)[:len(want)], want) {
		t.Errorf("P2: %s: what was handed in is now %v, %v", what, whole(c.Old), whole(c.New))
	}
}

// P2: the members that New and Seal are handed, with their spare room, are neither changed nor kept.
func TestHandedInIsNotKept(t *testing.T) {
	first, next := roomyConfig(0, 1, 2), roomyConfig(2)
	g := newGens(t, api.Generation{N: 4, Engine: api.Chain, Base: 3, Config: first})
	if e := g.Seal(7, api.Raft, next); e != api.OK {
		t.Fatalf("P1701: Seal: %v", e)
	}
	scrawlGens(g.All()...)
	scrawlGens(g.Now(), g.At(4), g.At(8))
	checkHanded(t, "New", first, 0, 1, 2)
	checkHanded(t, "Seal", next, 2)
	scrawl(first.Old, first.New, next.Old, next.New)
	checkAll(t, g, three()[:2]...)
	checkLoaded(t, g)
}

// P2: what is refused is not changed, with its spare room.
func TestRefusedStays(t *testing.T) {
	g := row(t, three()...)
	c := roomyConfig(3, 2)
	New(api.Generation{N: 1, Engine: api.Raft, Config: c})
	g.Seal(9, api.Raft, c)
	checkHanded(t, "New and Seal", c, 3, 2)
	c = roomyConfig(1, 2)
	New(api.Generation{Config: c})
	g.Seal(8, api.Raft, c)
	g.Seal(9, 3, c)
	row(t, sixty()...).Seal(500, api.Raft, c)
	checkHanded(t, "New and Seal", c, 1, 2)
	checkAll(t, g, three()...)
}

// P2: members may be handed in that share memory with one another; the generations do not.
func TestHandedInShared(t *testing.T) {
	ids := upTo(5)
	g := newGens(t, api.Generation{N: 1, Engine: api.Raft, Config: members(ids[:2]...)})
	g.Seal(1, api.Raft, members(ids[:4]...))
	g.Seal(2, api.Raft, members(ids...))
	want := []api.Generation{gen(1, api.Raft, 0, 0, 1), gen(2, api.Raft, 1, 0, 1, 2, 3), gen(3, api.Raft, 2, 0, 1, 2, 3, 4)}
	checkAll(t, g, want...)
	all := g.All()
	scrawl(all[0].Config.New)
	scrawl(all[1].Config.New)
	if !same(all[2], want[2]) || !slices.Equal(ids, upTo(5)) {
		t.Errorf("P2: lists share memory: %+v, %v", all, ids)
	}
	scrawl(ids)
	checkAll(t, g, want...)
}

// P2: the bytes that Load is handed, with their spare room, are neither changed nor kept, be they taken or refused.
func TestLoadKeepsNothing(t *testing.T) {
	for _, cut := range list(0, 1, 50) {
		b := append(raw(three()...), "spare"...)
		b = b[:len(b)-5-cut]
		was := slices.Clone(whole(b))
		g, e := Load(b)
		if (e == api.OK) != (cut == 0) {
			t.Fatalf("P1703: Load: %v", e)
		}
		if !bytes.Equal(whole(b), was) {
			t.Errorf("P2: the bytes are now %x, not %x", whole(b), was)
		}
		for i := range whole(b) {
			whole(b)[i] = 33
		}
		if g != nil {
			checkAll(t, g, three()...)
			checkLoaded(t, g)
		}
	}
}

// P2: what is told is new memory, its spare room too: whoever writes over it changes neither the object nor what was told otherwise.
func TestToldIsOwn(t *testing.T) {
	for _, g := range []*Gens{row(t, three()...), checkLoaded(t, row(t, three()...))} {
		asks := map[string]func() []api.Generation{
			"All": g.All,
			"Now": func() []api.Generation { return []api.Generation{g.At(4), g.At(8), g.Now()} },
			"At":  func() []api.Generation { return []api.Generation{g.At(4), g.At(8), g.At(9)} },
		}
		for name, ask := range asks {
			for other, askOther := range asks {
				l := askOther()
				scrawlGens(ask()...)
				if !slices.EqualFunc(l, three(), same) {
					t.Errorf("P2: %s shares memory with what %s told ahead: %+v", name, other, l)
				}
				checkAll(t, g, three()...)
			}
		}
		b := g.Save()
		for i := range whole(b) {
			whole(b)[i] = 33
		}
		scrawl(whole(g.All())[0].Config.New)
		if !bytes.Equal(g.Save(), raw(three()...)) {
			t.Errorf("P2: what is written over bytes that were told is to be seen: %x", g.Save())
		}
	}
}

// P2: no two lists of one answer share memory, their spare room too.
func TestListsOfOneAnswer(t *testing.T) {
	all := row(t, three()...).All()
	for i, x := range all {
		if !same(x, three()[i]) {
			t.Errorf("P2: %+v: its list is a part of another", x)
		}
		scrawl(x.Config.Old, x.Config.New)
	}
}

// P2: what was told stays, whatever becomes of the object.
func TestToldStays(t *testing.T) {
	g := row(t, three()...)
	all, now, at, b := g.All(), g.Now(), g.At(8), g.Save()
	for k := range 57 {
		if e := g.Seal(9+k, api.Chain, members(k%9)); e != api.OK {
			t.Fatalf("P1701: Seal: %v", e)
		}
	}
	if !slices.EqualFunc(all, three(), same) || !same(now, three()[2]) || !same(at, three()[1]) || !bytes.Equal(b, raw(three()...)) {
		t.Errorf("P2: told was %+v, %+v, %+v, %x", all, now, at, b)
	}
}
