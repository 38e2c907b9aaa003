package seal

import (
	"bytes"
	"math"
	"slices"
	"testing"

	"synodal/api"
	"synodal/conf"
)

// picks is a row of numbers that hang on a first one.
type picks uint32

func (x *picks) next(count int) int {
	*x = *x*1664525 + 1013904223
	return int(*x>>8) % count
}

// drawnConfig is one that mostly may be.
func drawnConfig(x *picks) api.Config {
	var c api.Config
	for id := range 9 {
		if x.next(3) == 0 && len(c.New) < 7 {
			c.New = append(c.New, id)
		}
	}
	switch x.next(20) {
	case 0:
		c.Old = append(c.Old, x.next(9))
	case 1:
		c.New = append(c.New, x.next(12)-2)
	case 2:
		c.New = append(c.New, upTo(7)...)
	}
	return c
}

// drawnRow is generations that mostly may be.
func drawnRow(x *picks) []api.Generation {
	l := []api.Generation{gen(1+x.next(3), 1+x.next(2), x.next(3), x.next(9))}
	for range x.next(8) {
		l = append(l, gen(l[len(l)-1].N+1, 1+x.next(2), l[len(l)-1].Base+1+x.next(3), upTo(9)[x.next(3):3+x.next(5)]...))
	}
	switch x.next(8) {
	case 0:
		l[x.next(len(l))].N += x.next(3) - 1
	case 1:
		l[x.next(len(l))].Base += x.next(7) - 3
	case 2:
		l[x.next(len(l))].Engine = x.next(5) - 1
	case 3:
		l[x.next(len(l))].Config = drawnConfig(x)
	}
	return l
}

// begin tells by the chapter's words what answers a generation that is to come behind these.
func begin(all []api.Generation, next api.Generation) api.Errno {
	if len(all) == 0 && (next.N < 1 || next.Base < 0) || len(all) > 0 && next.Base <= all[len(all)-1].Base {
		return api.ErrArg
	}
	if next.Engine < 1 || next.Engine > 2 {
		return api.ErrArg
	}
	if e := conf.Check(next.Config); e != api.OK {
		return e
	}
	if len(next.Config.Old) > 0 {
		return api.ErrArg
	}
	if len(all) >= 60 {
		return api.ErrMany
	}
	return api.OK
}

// checkLaw is P1704: bases rise, and each index above the first one is of one generation: that which began last below it, by the list of all.
func checkLaw(t *testing.T, g *Gens) {
	t.Helper()
	all := g.All()
	for i, x := range all {
		if i > 0 && (x.Base <= all[i-1].Base || x.N != all[i-1].N+1) {
			t.Fatalf("P1704: %+v behind %+v", x, all[i-1])
		}
	}
	for index := all[0].Base - 2; index <= g.Now().Base+2; index++ {
		var of []api.Generation
		for i, x := range all {
			if x.Base < index && (i+1 == len(all) || index <= all[i+1].Base) {
				of = append(of, x)
			}
		}
		if index <= all[0].Base {
			of = append(of, api.Generation{})
		}
		if len(of) != 1 || !same(g.At(index), of[0]) {
			t.Fatalf("P1704: At(%d): %+v, not %+v", index, g.At(index), of)
		}
	}
}

// P1701, P1702, P1704, P3, P5: long rows of drawn calls on two objects, against the words of the chapter; both answer the same, and what is refused changes nothing.
func TestLongRows(t *testing.T) {
	answers := map[api.Errno]int{}
	for seed := range 150 {
		x := picks(seed)
		first := gen(1+x.next(9), 1+x.next(2), x.next(9), x.next(9))
		g, twin := newGens(t, first), newGens(t, first)
		all := []api.Generation{first}
		for range 120 {
			now := all[len(all)-1]
			next := api.Generation{N: now.N + 1, Engine: 1 + x.next(2), Base: now.Base + 1 + x.next(4), Config: drawnConfig(&x)}
			switch x.next(12) {
			case 0:
				next.Base -= x.next(6)
			case 1:
				next.Engine = x.next(5) - 1
			case 2:
				next.Base = numbers[x.next(7)]
			}
			want := begin(all, next)
			was := g.Save()
			e, again := g.Seal(next.Base, next.Engine, next.Config), twin.Seal(next.Base, next.Engine, next.Config)
			if e != want || again != want {
				t.Fatalf("P1701: Seal for %+v: %v and %v, not %v", next, e, again, want)
			}
			answers[e]++
			if e == api.OK {
				all = append(all, next)
			} else if !bytes.Equal(g.Save(), was) {
				t.Fatalf("P5: %v has changed %x to %x", e, was, g.Save())
			}
			if !slices.EqualFunc(g.All(), all, same) || !same(g.Now(), all[len(all)-1]) || !bytes.Equal(g.Save(), twin.Save()) {
				t.Fatalf("P1701: %+v, not %+v", g.All(), all)
			}
			if x.next(10) == 0 {
				twin = checkLoaded(t, g)
			}
		}
		checkLaw(t, g)
		checkLaw(t, twin)
		checkFence(t, g, g.Now().N)
	}
	for _, e := range []api.Errno{api.OK, api.ErrArg, api.ErrNone, api.ErrMany} {
		if answers[e] < 50 {
			t.Errorf("hardly asked: %v %d times", e, answers[e])
		}
	}
}

// P1701, P6: each New and Seal of these, right and wrong in every field at once.
func TestEveryCall(t *testing.T) {
	for _, x := range configs {
		for engine := range 4 {
			for _, base := range list(math.MinInt, -1, 0, 7, 8, 9, math.MaxInt) {
				for _, n := range list(math.MinInt, 0, 1, math.MaxInt) {
					next := api.Generation{N: n, Engine: engine, Base: base, Config: x.c}
					g, e := New(next)
					if want := begin(nil, next); e != want || (g == nil) != (e != api.OK) {
						t.Errorf("P1701: New(%+v): %v, not %v", next, e, want)
					}
				}
				for _, all := range [][]api.Generation{three(), sixty()} {
					g := row(t, all...)
					next := api.Generation{Engine: engine, Base: base, Config: x.c}
					if e, want := g.Seal(base, engine, x.c), begin(all, next); e != want {
						t.Errorf("P1701: Seal for %+v behind %d: %v, not %v", next, len(all), e, want)
					}
				}
			}
		}
	}
}

// P7: of two objects neither knows of the other.
func TestTwoObjects(t *testing.T) {
	g, h := row(t, three()...), row(t, three()...)
	g.Seal(9, api.Raft, members(1))
	h.Seal(10, api.Chain, members(2))
	h.Seal(11, api.Chain, members(3))
	checkAll(t, g, append(three(), gen(7, api.Raft, 9, 1))...)
	checkAll(t, h, append(three(), gen(7, api.Chain, 10, 2), gen(8, api.Chain, 11, 3))...)
}
