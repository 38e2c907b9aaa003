package engine

import (
	"math"
	"slices"
	"testing"

	"synodal/api"
)

// checkRefused says that a call answered that error, and no engine beside it.
func checkRefused(t *testing.T, what string, x *Engine, e, want api.Errno) {
	t.Helper()
	if x != nil || e != want {
		t.Errorf("P1601: %s: %v, %v, not %v", what, x, e, want)
	}
}

// saved are bytes that an engine of that kind saved, alone in its group, that has got an entry committed, and proposed other members.
func saved(t *testing.T, kind int) []byte {
	t.Helper()
	p := newPair(t, kind, 0, 3, 0)
	p.ticks(20)
	p.propose(api.Entry{Kind: api.KData, Client: 1, Seq: 1, Data: "a"})
	p.propose(api.Entry{Kind: api.KConf, Client: 1, Seq: 2, Members: list(0, 2)})
	p.told()
	return p.saved
}

// P1601: of a kind that is none there is no engine, whatever else comes with it: that is told ahead of all other errors.
func TestNoSuchKind(t *testing.T) {
	for _, kind := range list(0, 3, -1, -2, 4, 8, 257, 1<<32+1, 1<<32+2, math.MinInt, math.MinInt+1, math.MinInt+2, math.MaxInt) {
		for _, id := range list(-1, 0, 8, 9, math.MinInt, math.MaxInt) {
			for _, members := range [][]int{nil, {}, {0}, {0, 1, 2}, {2, 1}, {9}, make([]int, 8)} {
				for _, base := range list(-1, 0, 64, 65) {
					x, e := New(kind, id, members, base)
					checkRefused(t, "New of no kind", x, e, api.ErrKind)
				}
			}
			for _, b := range [][]byte{nil, {}, {1}, saved(t, api.Raft), saved(t, api.Chain)} {
				x, e := Load(kind, id, b)
				checkRefused(t, "Load of no kind", x, e, api.ErrKind)
			}
		}
	}
}

// P1601: of a kind that there is New answers what its core's does.
func TestNew(t *testing.T) {
	for _, c := range []struct {
		id      int
		members []int
		base    int
		want    api.Errno
	}{
		{0, list(0), 0, api.OK}, {0, list(0, 1, 2), 64, api.OK}, {8, list(0), 7, api.OK}, {3, list(0, 1, 2, 3, 4, 5, 8), 1, api.OK},
		{-1, nil, 0, api.ErrArg}, {9, nil, 0, api.ErrArg}, {math.MinInt, list(0), 0, api.ErrArg}, {math.MaxInt, list(0), 0, api.ErrArg},
		{0, nil, -1, api.ErrArg}, {0, nil, 65, api.ErrArg}, {0, list(0), math.MinInt, api.ErrArg}, {0, list(0), math.MaxInt, api.ErrArg},
		{0, nil, 0, api.ErrNone}, {0, list(), 0, api.ErrNone}, {0, make([]int, 8), 0, api.ErrMany},
		{0, list(2, 1), 0, api.ErrArg}, {0, list(1, 1), 0, api.ErrArg}, {0, list(-1, 0), 0, api.ErrArg}, {0, list(0, 9), 0, api.ErrArg},
	} {
		for _, kind := range kinds() {
			x, e := New(kind, c.id, c.members, c.base)
			if c.want != api.OK {
				checkRefused(t, "New", x, e, c.want)
				continue
			}
			p := newPair(t, kind, c.id, c.base, c.members...)
			if e != api.OK || x.Kind() != kind || x.Commit() != c.base || !slices.Equal(x.Save(), p.saved) || !slices.Equal(x.Config().New, c.members) {
				t.Errorf("P1601: New(%d, %d, %v, %d): %v", kind, c.id, c.members, c.base, e)
			}
		}
	}
}

// P1601: of a kind that there is Load answers what its core's does: nothing of bytes that no Save told, nor of those that an engine of the other kind did.
func TestLoadRefuses(t *testing.T) {
	for _, kind := range kinds() {
		b := saved(t, kind)
		wrong := [][]byte{nil, {}, {1}, make([]byte, 100), saved(t, other(kind)), append(slices.Clone(b), 0), slices.Concat(b, b)}
		fresh := newPair(t, other(kind), 0, 0, 0, 1, 2)
		wrong = append(wrong, fresh.saved)
		for i := range b {
			flipped := slices.Clone(b)
			flipped[i] ^= 1 << (i % 8)
			wrong = append(wrong, b[:i], flipped)
		}
		for _, bytes := range wrong {
			x, e := Load(kind, 0, bytes)
			checkRefused(t, "Load of other bytes", x, e, api.ErrBad)
		}
		for _, id := range list(-1, 9, math.MinInt, math.MaxInt) {
			x, e := Load(kind, id, b)
			_, want := loadCore(kind, id, b)
			checkRefused(t, "Load of no node", x, e, want)
			if want == api.OK {
				t.Errorf("P1601: there is a core %d", id)
			}
		}
	}
}

// P1601: Load makes an engine of that kind that has what was saved, and the engine's own kind whatever it does then.
func TestLoad(t *testing.T) {
	for _, kind := range kinds() {
		b := saved(t, kind)
		x, e := Load(kind, 0, b)
		if e != api.OK || x.Kind() != kind || x.Role() != api.Follower || x.Commit() < 4 || !slices.Equal(x.Save(), b) {
			t.Fatalf("P1601: Load(%d, ..): %v", kind, e)
		}
		if at, ok := x.Entry(4); !ok || at.Data != "a" {
			t.Errorf("P1601: Load(%d, ..): at 4 %+v, %v", kind, at, ok)
		}
		x.Tick(3)
		x.Step(api.Msg{From: 2, To: 0, Kind: 1, Term: 9})
		if x.Kind() != kind {
			t.Errorf("P1601: Kind %d, not %d", x.Kind(), kind)
		}
	}
}

// P7: engines of the same beginning, or of the same bytes, have nothing in common.
func TestApart(t *testing.T) {
	for _, kind := range kinds() {
		x, _ := New(kind, 0, list(0), 0)
		y, _ := New(kind, 0, list(0), 0)
		was := y.Save()
		for range 20 {
			x.Tick(0)
		}
		if _, e := x.Propose(api.Entry{Kind: api.KData, Client: 1, Seq: 1}); e != api.OK || x.Commit() != 1 || !slices.Equal(y.Save(), was) || y.Role() != api.Follower {
			t.Errorf("P7: kind %d: %v, commit %d", kind, e, x.Commit())
		}
		b := x.Save()
		z, _ := Load(kind, 0, b)
		for range 20 {
			z.Tick(0)
		}
		z.Propose(api.Entry{Kind: api.KData, Client: 1, Seq: 2})
		if z.Commit() <= 1 || x.Commit() != 1 || !slices.Equal(x.Save(), b) {
			t.Errorf("P7: kind %d: commits %d and %d", kind, z.Commit(), x.Commit())
		}
	}
}
