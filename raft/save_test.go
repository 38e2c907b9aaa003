package raft

import (
	"math"
	"slices"
	"strconv"
	"testing"

	"synodal/api"
	"synodal/conf"
	"synodal/wire"
)

// checkLoaded holds a core that is loaded from what another one saved against that one.
func checkLoaded(t *testing.T, what string, x *Core, base int) *Core {
	t.Helper()
	b := x.Save()
	if len(b) == 0 || len(b) > 11000 || !slices.Equal(x.Save(), b) {
		t.Fatalf("%s: Save: %d bytes", what, len(b))
	}
	y, e := Load(x.id, b)
	if e != api.OK {
		t.Fatalf("%s: Load: %v", what, e)
	}
	if y.Role() != api.Follower || len(y.Out()) > 0 {
		t.Errorf("%s: a loaded core is of role %d", what, y.Role())
	}
	if y.Term() != x.Term() || y.Commit() != x.Commit() || y.Sealed() != x.Sealed() || !conf.Same(y.Config(), x.Config()) {
		t.Errorf("%s: term %d, commit %d, sealed %v, %v", what, y.Term(), y.Commit(), y.Sealed(), y.Config())
	}
	for i := base - 1; i <= lastOf(x, base)+1; i++ {
		one, is := x.Entry(i)
		other, ok := y.Entry(i)
		if is != ok || !wire.SameEntry(one, other) {
			t.Errorf("%s: at %d: %+v, not %+v", what, i, other, one)
		}
	}
	if !slices.Equal(y.Save(), b) {
		t.Errorf("%s: a loaded core saves other bytes", what)
	}
	return y
}

// P1201: behind each call of a script a core that is loaded has what was saved.
func TestSaveBehindEachCall(t *testing.T) {
	for seed := range 40 {
		x := picks(seed)
		s := drawn(&x)
		s.steps, s.halts, s.loads = 1, 0, 0
		g := newGroup(t, s.cores, s.base, x.members(s.cores)...)
		for range 250 {
			g.play(&x, s)
			for id, c := range g.cores {
				checkLoaded(t, "seed "+strconv.Itoa(seed)+", core "+strconv.Itoa(id), c, s.base)
			}
		}
	}
}

// full is the greatest log that may be: 64 entries that change members, seven of them each.
func full(base int) ([]int, []api.Entry) {
	var terms []int
	var l []api.Entry
	for i := base; i < 64; i++ {
		members := list(0, 1, 2, 3, 4, 5, 6)
		if i%4 > 1 {
			members = list(2, 3, 4, 5, 6, 7, 8)
		}
		e := api.Entry{Kind: api.KConf, Client: 1<<40 - 1, Seq: 1<<40 - 1, Members: members}
		if i%2 == 1 {
			e = api.Entry{Kind: api.KDone, Members: members}
		}
		terms, l = append(terms, 1<<40-65+i), append(l, e)
	}
	return terms, l
}

// P1201: the greatest log that may be is saved in 11000 bytes.
func TestSaveGreatest(t *testing.T) {
	for _, base := range list(0, 1, 40, 63, 64) {
		x := newCore(t, 8, base, 1, 3, 4, 5, 6, 7, 8)
		terms, l := full(base)
		x.Step(api.Msg{From: 0, To: 8, Kind: entries, Term: 1<<40 - 1, Index: base, Commit: 60, Terms: terms, Entries: l})
		if lastOf(x, base) != 64 || x.Commit() != max(base, 60) || x.Term() != 1<<40-1 {
			t.Fatalf("base %d: the log up to %d, commit %d, term %d", base, lastOf(x, base), x.Commit(), x.Term())
		}
		checkLoaded(t, "base "+strconv.Itoa(base), x, base)
	}
}

// some is a core that has a bit of all.
func some(t *testing.T) *Core {
	t.Helper()
	g := newGroup(t, 4, 2, 0, 1, 2)
	id := g.calm()
	g.checkGoes(g.data())
	g.must(id, g.change(1, 2, 3))
	g.must(id, g.data())
	return g.cores[id]
}

func checkBad(t *testing.T, what string, b []byte) {
	t.Helper()
	if x, e := Load(1, b); e != api.ErrBad || x != nil {
		t.Fatalf("%s: Load: %v", what, e)
	}
}

// P1201: Load refuses bytes that are cut off, turned, or have more behind.
func TestLoadOtherBytes(t *testing.T) {
	for _, x := range []*Core{newCore(t, 1, 0, 1), some(t)} {
		b := x.Save()
		if _, e := Load(1, b); e != api.OK {
			t.Fatalf("Load: %v", e)
		}
		for cut := range b {
			checkBad(t, "cut off behind "+strconv.Itoa(cut), b[:cut])
			checkBad(t, "from "+strconv.Itoa(cut+1)+" on", b[cut+1:])
		}
		for at := range b {
			for bit := range 8 {
				turned := slices.Clone(b)
				turned[at] ^= 1 << bit
				checkBad(t, "byte "+strconv.Itoa(at)+" turned", turned)
			}
		}
		for _, more := range [][]byte{{0}, {255}, make([]byte, 7), make([]byte, 8), b} {
			checkBad(t, "more behind", slices.Concat(b, more))
			checkBad(t, "more ahead", slices.Concat(more, b))
		}
		slices.Reverse(b)
		checkBad(t, "backwards", b)
	}
	checkBad(t, "nothing", nil)
	checkBad(t, "an empty frame", make([]byte, 8))
	checkBad(t, "no frame", []byte("no core saved this"))
	checkBad(t, "too long a length", []byte{255, 255, 255, 255, 0, 0, 0, 0})
}

// P1201: Load refuses what no core would save, though the sum is right; and an id that is none.
func TestLoadNonsense(t *testing.T) {
	b := some(t).Save()
	frames, _, _ := wire.Split(b)
	for what, turn := range map[string]func(m *api.Msg){
		"a sender":                    func(m *api.Msg) { m.From = 1 },
		"a receiver":                  func(m *api.Msg) { m.To = 1 },
		"a generation":                func(m *api.Msg) { m.Gen = 1 },
		"another kind":                func(m *api.Msg) { m.Kind = entries },
		"a yes":                       func(m *api.Msg) { m.Yes = true },
		"a joint beginning":           func(m *api.Msg) { m.Config.Old = list(1) },
		"no members":                  func(m *api.Msg) { m.Config.New = nil },
		"eight members":               func(m *api.Msg) { m.Config.New = upTo(8) },
		"members that fall":           func(m *api.Msg) { m.Config.New = list(2, 1) },
		"a base below 0":              func(m *api.Msg) { m.Index = -1 },
		"a base too high":             func(m *api.Msg) { m.Index = 65 },
		"a base with no room":         func(m *api.Msg) { m.Index, m.Commit = 63, 63 },
		"a vote for nobody":           func(m *api.Msg) { m.Last = -2 },
		"a vote for one too high":     func(m *api.Msg) { m.Last = 9 },
		"too little committed":        func(m *api.Msg) { m.Commit = 1 },
		"too much committed":          func(m *api.Msg) { m.Commit = 9 },
		"a term below its entries'":   func(m *api.Msg) { m.Term = 0 },
		"a term below 0":              func(m *api.Msg) { m.Term, m.Commit, m.Terms, m.Entries = -1, 2, nil, nil },
		"fewer terms than entries":    func(m *api.Msg) { m.Terms = m.Terms[1:] },
		"terms that fall":             func(m *api.Msg) { m.Terms[0], m.Term = 3, 3 },
		"a term 0":                    func(m *api.Msg) { m.Terms[0] = 0 },
		"base at the least of int":    func(m *api.Msg) { m.Index = math.MinInt },
		"base at the greatest of int": func(m *api.Msg) { m.Index = math.MaxInt },
	} {
		m, e := wire.ParseMsg(frames[0])
		if e != api.OK {
			t.Fatal(e)
		}
		turn(&m)
		bytes, e := wire.EncodeMsg(m)
		if e != api.OK {
			t.Fatalf("%s: %v", what, e)
		}
		f, _ := wire.Frame(bytes)
		checkBad(t, what, f)
	}
	for _, id := range list(-1, 9, math.MinInt, math.MaxInt) {
		if x, e := Load(id, b); e != api.ErrBad || x != nil {
			t.Errorf("Load of id %d: %v", id, e)
		}
	}
}

// P1201, P1205: a Candidate and a Leader that are loaded are Followers, of the same term, and vote for no other one in it; no more does one that voted.
func TestLoadVote(t *testing.T) {
	stood := newCore(t, 0, 0, 0, 1, 2)
	stands(t, stood, 0)
	led, _ := Load(0, stood.Save())
	stands(t, led, 0)
	led.Step(api.Msg{From: 2, To: 0, Kind: vote, Term: led.Term(), Yes: true})
	if led.Role() != api.Leader {
		t.Fatalf("two of three votes: role %d", led.Role())
	}
	voted := newCore(t, 0, 0, 0, 1, 2)
	voted.Step(api.Msg{From: 2, To: 0, Kind: ask, Term: 4})
	checkVote(t, "one that votes", voted, 2, 4, true)
	for what, x := range map[string]*Core{"a Candidate": stood, "a Leader": led, "one that voted": voted} {
		y := checkLoaded(t, what, x, 0)
		y.Step(api.Msg{From: 1, To: 0, Kind: ask, Term: y.Term(), Index: 50, Last: y.Term()})
		checkVote(t, what+", loaded", y, 1, y.Term(), false)
		y.Step(api.Msg{From: 1, To: 0, Kind: ask, Term: y.Term() + 1, Index: 50, Last: y.Term()})
		checkVote(t, what+", loaded, of the next term", y, 1, y.Term(), true)
	}
	again, _ := Load(0, voted.Save())
	again.Step(api.Msg{From: 2, To: 0, Kind: ask, Term: 4})
	checkVote(t, "one that votes for the same again", again, 2, 4, true)
}

// checkVote holds the one message that a core has to send against a vote.
func checkVote(t *testing.T, what string, x *Core, to, term int, yes bool) {
	t.Helper()
	out := x.Out()
	if len(out) != 1 || out[0].To != to || out[0].Kind != vote || out[0].Term != term || out[0].Yes != yes || x.Term() != term {
		t.Errorf("%s: term %d, it sends %+v", what, x.Term(), out)
	}
}
