package seal

import (
	"math"
	"slices"
	"testing"

	"synodal/api"
	"synodal/conf"
)

func list(numbers ...int) []int { return numbers }

// members is a configuration of these alone.
func members(ids ...int) api.Config { return api.Config{New: ids} }

// upTo are the numbers below one.
func upTo(n int) []int {
	var out []int
	for k := range n {
		out = append(out, k)
	}
	return out
}

// gen is a generation of these members.
func gen(n, engine, base int, ids ...int) api.Generation {
	return api.Generation{N: n, Engine: engine, Base: base, Config: members(ids...)}
}

func same(a, b api.Generation) bool {
	return a.N == b.N && a.Engine == b.Engine && a.Base == b.Base && conf.Same(a.Config, b.Config)
}

// newGens begins with a generation that may be.
func newGens(t *testing.T, first api.Generation) *Gens {
	t.Helper()
	g, e := New(first)
	if e != api.OK || g == nil {
		t.Fatalf("P1701: New(%+v): %v", first, e)
	}
	return g
}

// row is generations, each begun behind the one ahead, as their numbers say.
func row(t *testing.T, l ...api.Generation) *Gens {
	t.Helper()
	g := newGens(t, l[0])
	for _, x := range l[1:] {
		if e := g.Seal(x.Base, x.Engine, x.Config); e != api.OK {
			t.Fatalf("P1701: Seal for %+v: %v", x, e)
		}
	}
	checkAll(t, g, l...)
	return g
}

// three are three generations.
func three() []api.Generation {
	return []api.Generation{gen(4, api.Chain, 3, 0, 1, 2), gen(5, api.Raft, 7, 2), gen(6, api.Raft, 8, 0, 3, 4, 5, 6, 7, 8)}
}

// checkAll says that these are all generations, and the last one is Now.
func checkAll(t *testing.T, g *Gens, want ...api.Generation) {
	t.Helper()
	if got := g.All(); !slices.EqualFunc(got, want, same) {
		t.Errorf("P1701: All: %+v, not %+v", got, want)
	}
	if got := g.Now(); !same(got, want[len(want)-1]) {
		t.Errorf("P1701: Now: %+v, not %+v", got, want[len(want)-1])
	}
}

// numbers are such as stand at edges.
var numbers = []int{math.MinInt, -1 << 40, -256, -2, -1, 0, 1, 2, 3, 4, 255, 256, 1 << 40, math.MaxInt - 1, math.MaxInt}

// P1701: New of each number and base about the edges.
func TestNewNumbers(t *testing.T) {
	for _, n := range numbers {
		for _, base := range numbers {
			x := gen(n, api.Raft, base, 1, 2)
			if n >= 1 && base >= 0 {
				checkAll(t, newGens(t, x), x)
				continue
			}
			if g, e := New(x); e != api.ErrArg || g != nil {
				t.Errorf("P1701: New(%+v): %v", x, e)
			}
		}
	}
}

// P1701: New and Seal of each engine about the two that there are.
func TestEngines(t *testing.T) {
	for _, engine := range numbers {
		want := api.ErrArg
		if engine == api.Raft || engine == api.Chain {
			want = api.OK
		}
		x := gen(1, engine, 0, 1)
		g, e := New(x)
		if e != want || (g == nil) != (e != api.OK) {
			t.Errorf("P1701: New(%+v): %v", x, e)
		}
		if g != nil {
			checkAll(t, g, x)
		}
		g = row(t, three()...)
		if e := g.Seal(9, engine, members(1)); e != want {
			t.Errorf("P1701: Seal of engine %d: %v", engine, e)
		}
		if want == api.OK {
			checkAll(t, g, append(three(), gen(7, engine, 9, 1))...)
		} else {
			checkAll(t, g, three()...)
		}
	}
}

// configs are such as may be, and may not be, by what is told of them.
var configs = []struct {
	c    api.Config
	want api.Errno
}{
	{members(0), api.OK},
	{members(8), api.OK},
	{members(0, 8), api.OK},
	{members(3, 4, 5), api.OK},
	{members(upTo(7)...), api.OK},
	{members(upTo(9)[2:]...), api.OK},
	{api.Config{Old: list(), New: list(1)}, api.OK},
	{members(), api.ErrNone},
	{api.Config{New: list()}, api.ErrNone},
	{api.Config{Old: list(1)}, api.ErrNone},
	{members(upTo(8)...), api.ErrMany},
	{members(make([]int, 8)...), api.ErrMany},
	{members(make([]int, 1000)...), api.ErrMany},
	{api.Config{Old: upTo(8), New: list(1)}, api.ErrMany},
	{api.Config{Old: upTo(8)}, api.ErrMany},
	{api.Config{Old: list(1), New: upTo(8)}, api.ErrMany},
	{members(1, 1), api.ErrArg},
	{members(2, 1), api.ErrArg},
	{members(0, 2, 1), api.ErrArg},
	{members(-1), api.ErrArg},
	{members(9), api.ErrArg},
	{members(-1, 0), api.ErrArg},
	{members(7, 8, 9), api.ErrArg},
	{members(math.MinInt, math.MaxInt), api.ErrArg},
	{api.Config{Old: list(2, 1)}, api.ErrArg},
	{api.Config{Old: list(2, 1), New: upTo(8)}, api.ErrArg},
	{api.Config{Old: list(9), New: list(1)}, api.ErrArg},
	{api.Config{Old: list(1), New: list(2)}, api.ErrArg},
	{api.Config{Old: list(1), New: list(1)}, api.ErrArg},
	{api.Config{Old: list(0, 1, 2), New: list(1, 2, 3)}, api.ErrArg},
	{api.Config{Old: upTo(7), New: upTo(7)}, api.ErrArg},
}

// P1701: New and Seal of each configuration: conf.Check's error, or ErrArg of a joint one.
func TestConfigs(t *testing.T) {
	for _, x := range configs {
		first := api.Generation{N: 1, Engine: api.Chain, Config: x.c}
		g, e := New(first)
		if e != x.want || (g == nil) != (e != api.OK) {
			t.Errorf("P1701: New of %v: %v, not %v", x.c, e, x.want)
		}
		if g != nil {
			checkAll(t, g, first)
		}
		g = row(t, three()...)
		if e := g.Seal(9, api.Chain, x.c); e != x.want {
			t.Errorf("P1701: Seal of %v: %v, not %v", x.c, e, x.want)
		}
		if x.want == api.OK {
			checkAll(t, g, append(three(), api.Generation{N: 7, Engine: api.Chain, Base: 9, Config: x.c})...)
		} else {
			checkAll(t, g, three()...)
		}
	}
}

// P1701, P6: of several errors of New the first one is told: a number, engine or base ahead of the configuration's.
func TestNewFirstError(t *testing.T) {
	for _, x := range configs {
		for i, first := range []api.Generation{
			{N: 0, Engine: api.Raft}, {N: 1, Engine: 0}, {N: 1, Engine: 3}, {N: 1, Engine: api.Chain, Base: -1}, {N: -1, Engine: -1, Base: -1},
		} {
			first.Config = x.c
			if g, e := New(first); e != api.ErrArg || g != nil {
				t.Errorf("P1701: %d: New(%+v): %v", i, first, e)
			}
		}
	}
	if g, e := New(api.Generation{}); e != api.ErrArg || g != nil {
		t.Errorf("P1701: New of nothing: %v", e)
	}
}

// P1701: Seal of an index at, below and above the base of the last one, and at the ends of int.
func TestSealIndex(t *testing.T) {
	for _, base := range list(0, 1, 8, 64, 1<<40, math.MaxInt-1, math.MaxInt) {
		for _, index := range append(list(base-1, base, base+1, base/2, base+2), numbers...) { // base+1 may go round, and is then the least
			g := newGens(t, gen(1, api.Raft, base, 1))
			e := g.Seal(index, api.Chain, members(2, 3))
			if index > base {
				checkAll(t, g, gen(1, api.Raft, base, 1), gen(2, api.Chain, index, 2, 3))
			} else {
				checkAll(t, g, gen(1, api.Raft, base, 1))
			}
			if (e == api.OK) != (index > base) || e != api.OK && e != api.ErrArg {
				t.Errorf("P1701: Seal at %d, behind %d: %v", index, base, e)
			}
		}
	}
}

// P1701: it is the last one's base that an index is held against.
func TestSealIndexOfLast(t *testing.T) {
	g := row(t, three()...)
	for _, index := range list(math.MinInt, -1, 0, 3, 4, 6, 7, 8) {
		if e := g.Seal(index, api.Raft, members(1)); e != api.ErrArg {
			t.Errorf("P1701: Seal at %d: %v", index, e)
		}
		checkAll(t, g, three()...)
	}
	if e := g.Seal(math.MaxInt, api.Raft, members(1)); e != api.OK {
		t.Errorf("P1701: Seal at the end of int: %v", e)
	}
	all := append(three(), gen(7, api.Raft, math.MaxInt, 1))
	checkAll(t, g, all...)
	if e := g.Seal(math.MaxInt, api.Raft, members(1)); e != api.ErrArg {
		t.Errorf("P1701: Seal at the end of int again: %v", e)
	}
	checkAll(t, g, all...)
}

// P1701, P6: of several errors of Seal the first one is told: an index or engine ahead of the configuration's.
func TestSealFirstError(t *testing.T) {
	g := row(t, three()...)
	for _, x := range configs {
		for _, at := range [][2]int{{8, api.Raft}, {-1, api.Chain}, {9, 0}, {9, 3}, {8, 3}} {
			if e := g.Seal(at[0], at[1], x.c); e != api.ErrArg {
				t.Errorf("P1701: Seal(%d, %d, %v): %v", at[0], at[1], x.c, e)
			}
		}
	}
	checkAll(t, g, three()...)
}

// P1701: the next generation may be of the same engine and members as the one ahead, or of others.
func TestSealSame(t *testing.T) {
	row(t, gen(1, api.Raft, 0, 1, 2), gen(2, api.Raft, 1, 1, 2), gen(3, api.Chain, 2, 1, 2), gen(4, api.Chain, 3, 1, 2), gen(5, api.Raft, 4, 3))
}

// sixty are as many generations as there may be.
func sixty() []api.Generation {
	var l []api.Generation
	for k := range 60 {
		l = append(l, gen(k+1, 1+k%2, 2*k, upTo(9)[k%3:k%3+k%7+1]...))
	}
	return l
}

// P1701: sixty generations, and not one more; of other errors ErrMany is the last.
func TestSixty(t *testing.T) {
	for count := range 60 {
		row(t, sixty()[:count+1]...)
	}
	g := row(t, sixty()...)
	for _, x := range configs {
		want := x.want
		if want == api.OK {
			want = api.ErrMany
		}
		for _, index := range list(119, 500, math.MaxInt) {
			if e := g.Seal(index, api.Raft, x.c); e != want {
				t.Errorf("P1701: sixty: Seal of %v: %v, not %v", x.c, e, want)
			}
		}
		for _, at := range [][2]int{{118, api.Raft}, {0, api.Chain}, {119, 0}, {119, 3}} {
			if e := g.Seal(at[0], at[1], x.c); e != api.ErrArg {
				t.Errorf("P1701: sixty: Seal(%d, %d, %v): %v", at[0], at[1], x.c, e)
			}
		}
	}
	checkAll(t, g, sixty()...)
	checkFence(t, g, 60)
}

// P1701: N is one more than the one ahead, as ints go: behind the greatest comes the least. What is saved is loaded there, too.
func TestGreatestN(t *testing.T) {
	g := row(t, gen(math.MaxInt-1, api.Raft, 0, 1), gen(math.MaxInt, api.Chain, 1, 2))
	checkFence(t, g, math.MaxInt)
	if e := g.Seal(2, api.Raft, members()); e != api.ErrNone {
		t.Errorf("P1701: Seal of no members: %v", e)
	}
	if e := g.Seal(2, api.Raft, members(3)); e != api.OK {
		t.Errorf("P1701: Seal: %v", e)
	}
	checkAll(t, g, gen(math.MaxInt-1, api.Raft, 0, 1), gen(math.MaxInt, api.Chain, 1, 2), gen(math.MinInt, api.Raft, 2, 3))
	checkFence(t, g, math.MinInt)
	checkLoaded(t, g)
}

// checkFence says that it lets in what is of this generation alone.
func checkFence(t *testing.T, g *Gens, now int) {
	t.Helper()
	for _, n := range append(list(now-1, now, now+1, now/2), numbers...) {
		want := api.OK
		if n < now {
			want = api.ErrGen
		} else if n > now {
			want = api.ErrNone
		}
		if e := g.Fence(n); e != want {
			t.Errorf("P1702: Fence(%d) where %d is at work: %v, not %v", n, now, e, want)
		}
	}
}

// P1702: Fence below, at and above Now().N.
func TestFence(t *testing.T) {
	for _, n := range list(1, 2, 7, 1<<40, math.MaxInt-1, math.MaxInt) {
		checkFence(t, newGens(t, gen(n, api.Raft, 0, 1)), n)
	}
	g := row(t, three()...)
	checkFence(t, g, 6)
	g.Seal(8, api.Raft, members(1))
	checkFence(t, g, 6)
	g.Seal(9, api.Raft, members(1))
	checkFence(t, g, 7)
	checkAll(t, g, append(three(), gen(7, api.Raft, 9, 1))...)
}

func checkAt(t *testing.T, g *Gens, index int, want api.Generation) {
	t.Helper()
	if got := g.At(index); !same(got, want) {
		t.Errorf("P1702: At(%d): %+v, not %+v", index, got, want)
	}
}

// P1702: At at, below and above each base; zero where none began.
func TestAt(t *testing.T) {
	g := row(t, three()...)
	for _, index := range list(math.MinInt, -1, 0, 1, 2, 3) {
		checkAt(t, g, index, api.Generation{})
	}
	for _, index := range list(4, 5, 6, 7) {
		checkAt(t, g, index, three()[0])
	}
	checkAt(t, g, 8, three()[1])
	for _, index := range list(9, 10, 64, 65, 1<<40, math.MaxInt) {
		checkAt(t, g, index, three()[2])
	}
	checkAll(t, g, three()...)
}

// P1702: At where bases are at the ends of what they may be.
func TestAtEnds(t *testing.T) {
	l := []api.Generation{gen(1, api.Raft, 0, 1), gen(2, api.Chain, math.MaxInt-1, 2), gen(3, api.Raft, math.MaxInt, 3)}
	g := row(t, l...)
	for index, want := range map[int]api.Generation{
		math.MinInt: {}, -1: {}, 0: {}, 1: l[0], math.MaxInt - 2: l[0], math.MaxInt - 1: l[0], math.MaxInt: l[1],
	} {
		checkAt(t, g, index, want)
	}
}

// The example of the chapter.
func TestExample(t *testing.T) {
	g := newGens(t, gen(1, api.Raft, 0, 1))
	if e := g.Seal(5, api.Chain, members(1)); e != api.OK || g.At(5).N != 1 || g.At(6).N != 2 {
		t.Errorf("P1702: %v, %+v, %+v", e, g.At(5), g.At(6))
	}
}
