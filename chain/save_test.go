package chain

import (
	"math"
	"slices"
	"strconv"
	"strings"
	"testing"

	"synodal/api"
	"synodal/conf"
	"synodal/paxos"
	"synodal/raft"
	"synodal/wire"
)

// checkLoaded holds a core that is loaded from what another one saved against that one.
func checkLoaded(t *testing.T, what string, x *Core) *Core {
	t.Helper()
	b := x.Save()
	if len(b) == 0 || len(b) > 11000 || !slices.Equal(x.Save(), b) {
		t.Fatalf("P1501: %s: Save: %d bytes", what, len(b))
	}
	y, e := Load(x.id, b)
	if e != api.OK {
		t.Fatalf("P1501: %s: Load: %v", what, e)
	}
	if y.Role() != api.Follower || len(y.Out()) > 0 {
		t.Errorf("P1501: %s: a loaded core is of role %d", what, y.Role())
	}
	if y.Term() != x.Term() || y.Commit() != x.Commit() || y.Sealed() != x.Sealed() || y.Instances() != x.Instances() || !conf.Same(y.Config(), x.Config()) {
		t.Errorf("P1501: %s: term %d, commit %d, sealed %v, %d instances, %v", what, y.Term(), y.Commit(), y.Sealed(), y.Instances(), y.Config())
	}
	for i := x.base - 1; i <= x.Commit()+1; i++ {
		one, is := x.Entry(i)
		other, ok := y.Entry(i)
		if is != ok || !wire.SameEntry(one, other) {
			t.Errorf("P1501: %s: at %d: %+v, not %+v", what, i, other, one)
		}
	}
	one, at := voteOf(t, x)
	other, where := voteOf(t, y)
	if at != where || !wire.SameEntry(one, other) || !slices.Equal(y.Save(), b) {
		t.Errorf("P1501: %s: its vote is %+v, not %+v", what, other, one)
	}
	return y
}

// P1501: behind each call of a script a core that is loaded has what was saved.
func TestSaveBehindEachCall(t *testing.T) {
	for seed := range 30 {
		x := picks(seed)
		s := drawn(&x)
		s.steps, s.halts, s.loads, s.changes = 1, 0, 0, 500
		g := newGroup(t, s.cores, s.base, x.members(s.cores)...)
		for range 300 {
			g.play(&x, s)
			for id, c := range g.cores {
				checkLoaded(t, "seed "+strconv.Itoa(seed)+", core "+strconv.Itoa(id), c)
			}
		}
	}
}

// most is an entry of most bytes of its kind.
func most(kind, k int) api.Entry {
	e := api.Entry{Kind: kind, Client: 1<<40 - 1, Seq: 1<<40 - 1}
	switch kind {
	case api.KConf:
		e.Members = upTo(9)[k%2+1 : k%2+8]
	case api.KData:
		e.Data = strings.Repeat("x", 16)
	}
	return e
}

// P1501: what lasts has at most 11000 bytes, however many instances there are, and whatever they made; it is loaded again.
func TestSaveGreatest(t *testing.T) {
	for _, every := range list(1, 2, 5, 55, 56) {
		x := newCore(t, 2, 0, upTo(9)[1:8]...)
		var l []api.Entry
		for k := range 55 {
			kind := api.KData
			if k%every == every-1 {
				kind = api.KConf
			}
			l = append(l, most(kind, 1+k/every))
		}
		x.Step(api.Msg{From: 3, To: 2, Kind: story, Term: 55 << ballotBits, Commit: 55, Entries: l})
		start := x.Commit()
		m := api.Msg{From: 8, To: 2, Kind: 3, Term: x.last.termOf(9<<30 + 8), Index: start, Commit: 55, Terms: list(9<<30 + 8), Entries: append(slices.Clone(l[start:]), most(api.KConf, x.Instances()))}
		x.Step(m)
		if _, at := voteOf(t, x); x.Commit() != 55 || x.Instances() != 1+55/every || at != 56 {
			t.Fatalf("every %d: commit %d, %d instances, a vote at %d", every, x.Commit(), x.Instances(), at)
		}
		checkLoaded(t, "every "+strconv.Itoa(every), x)
	}
}

// ample is core 1 with a bit of all: instances at their end, entries of the last one that are committed, and a vote of a ballot below what it promised.
func ample(t *testing.T) *Core {
	t.Helper()
	x := newCore(t, 1, 2, 0, 1, 2)
	l := slices.Concat(letters("a"), []api.Entry{change(1, 2)}, letters("bc"), []api.Entry{change(0, 1, 2)})
	x.Step(api.Msg{From: 2, To: 1, Kind: story, Term: 2 << ballotBits, Index: 2, Commit: 7, Entries: l})
	x.Step(api.Msg{From: 2, To: 1, Kind: 3, Term: 2<<ballotBits + 11, Index: 7, Commit: 9, Terms: list(11), Entries: letters("def")})
	x.Step(api.Msg{From: 0, To: 1, Kind: 1, Term: 2<<ballotBits + 18, Index: 7, Commit: 7})
	if e, at := voteOf(t, x); x.Instances() != 3 || x.Commit() != 9 || at != 10 || e.Data != "f" || x.Term() != 2<<ballotBits+18 {
		t.Fatalf("%d instances, commit %d, at %d %+v, term %d", x.Instances(), x.Commit(), at, e, x.Term())
	}
	x.Out()
	return x
}

func checkBad(t *testing.T, what string, b []byte) {
	t.Helper()
	if x, e := Load(1, b); e != api.ErrBad || x != nil {
		t.Fatalf("P1501: %s: Load: %v", what, e)
	}
}

// P1501: Load refuses bytes that are cut off, turned, or have more ahead or behind; and those of other cores.
func TestLoadOtherBytes(t *testing.T) {
	for _, x := range []*Core{newCore(t, 1, 0, 1), ample(t)} {
		b := x.Save()
		if _, e := Load(1, b); e != api.OK {
			t.Fatalf("P1501: Load: %v", e)
		}
		for cut := range b {
			checkBad(t, "cut off behind "+strconv.Itoa(cut), b[:cut])
			checkBad(t, "from "+strconv.Itoa(cut+1)+" on", b[cut+1:])
		}
		for at := range b {
			for bit := range 8 {
				turned := slices.Clone(b)
				turned[at] ^= 1 << bit
				checkBad(t, "byte "+strconv.Itoa(at)+" turned", turned)
			}
		}
		for _, more := range [][]byte{{0}, {255}, make([]byte, 7), make([]byte, 8), b, x.bytes(), x.last.Save()} {
			checkBad(t, "more behind", slices.Concat(b, more))
			checkBad(t, "more ahead", slices.Concat(more, b))
		}
		checkBad(t, "the past alone", x.bytes())
		checkBad(t, "the last instance alone", x.last.Save())
		checkBad(t, "the last instance ahead", slices.Concat(x.last.Save(), x.bytes()))
		checkBad(t, "the past twice", slices.Concat(x.bytes(), x.bytes()))
		checkBad(t, "the last instance twice", slices.Concat(x.last.Save(), x.last.Save()))
		slices.Reverse(b)
		checkBad(t, "backwards", b)
	}
	one, _ := raft.New(1, list(1), 0)
	checkBad(t, "the other engine's", one.Save())
	checkBad(t, "the other engine's twice", slices.Concat(one.Save(), one.Save()))
	checkBad(t, "nothing", nil)
	checkBad(t, "an empty frame", make([]byte, 8))
	checkBad(t, "two empty frames", make([]byte, 16))
	checkBad(t, "no frame", []byte("no core saved this"))
	checkBad(t, "too long a length", []byte{255, 255, 255, 255, 0, 0, 0, 0})
}

// P1501: Load refuses a past that no core would save, though the sum is right; and an id that is none.
func TestLoadNonsense(t *testing.T) {
	x := ample(t)
	frames, _, _ := wire.Split(x.bytes())
	migrate := api.Entry{Kind: api.KMigrate, Client: 1, Seq: 1, To: 1}
	for what, turn := range map[string]func(m *api.Msg){
		"a sender":                         func(m *api.Msg) { m.From = 1 },
		"a receiver":                       func(m *api.Msg) { m.To = 1 },
		"a generation":                     func(m *api.Msg) { m.Gen = 1 },
		"another kind":                     func(m *api.Msg) { m.Kind = story },
		"a term":                           func(m *api.Msg) { m.Term = 1 },
		"terms":                            func(m *api.Msg) { m.Terms = list(1) },
		"no yes":                           func(m *api.Msg) { m.Yes = false },
		"a last one":                       func(m *api.Msg) { m.Last = 1 },
		"a commit":                         func(m *api.Msg) { m.Commit = 7 },
		"a joint configuration":            func(m *api.Msg) { m.Config.Old = list(1) },
		"no members":                       func(m *api.Msg) { m.Config.New = nil },
		"eight members":                    func(m *api.Msg) { m.Config.New = upTo(8) },
		"members that fall":                func(m *api.Msg) { m.Config.New = list(2, 1) },
		"members that the first end has":   func(m *api.Msg) { m.Config.New = list(1, 2) },
		"a base below 0":                   func(m *api.Msg) { m.Index = -1 },
		"a base too high":                  func(m *api.Msg) { m.Index = 65 },
		"another base":                     func(m *api.Msg) { m.Index = 1 },
		"a base above":                     func(m *api.Msg) { m.Index = 3 },
		"a base with no room":              func(m *api.Msg) { m.Index = 52 },
		"base at the least of int":         func(m *api.Msg) { m.Index = math.MinInt },
		"base at the greatest of int":      func(m *api.Msg) { m.Index = math.MaxInt },
		"no past":                          func(m *api.Msg) { m.Entries = nil },
		"a past that is not at its end":    func(m *api.Msg) { m.Entries = m.Entries[:4] },
		"a past that is too short":         func(m *api.Msg) { m.Entries = m.Entries[:2] },
		"a past that goes on":              func(m *api.Msg) { m.Entries = append(m.Entries, letters("d")...) },
		"one more instance":                func(m *api.Msg) { m.Entries = append(m.Entries, change(1)) },
		"other members at the end":         func(m *api.Msg) { m.Entries[4] = change(0, 1) },
		"a change to the same members":     func(m *api.Msg) { m.Entries[1] = change(0, 1, 2) },
		"the same members at the end":      func(m *api.Msg) { m.Entries[4] = change(1, 2) },
		"a seal":                           func(m *api.Msg) { m.Entries[2] = migrate },
		"a seal at the end":                func(m *api.Msg) { m.Entries[4] = migrate },
		"a filler":                         func(m *api.Msg) { m.Entries[0] = api.Entry{} },
		"a change that is complete":        func(m *api.Msg) { m.Entries[3] = api.Entry{Kind: api.KDone, Members: list(1)} },
		"an entry of nobody's":             func(m *api.Msg) { m.Entries[2].Client = 0 },
		"an entry with more than it has":   func(m *api.Msg) { m.Entries[2].To = 1 },
		"a change to members that fall":    func(m *api.Msg) { m.Entries[1].Members = list(2, 1) },
		"a change of which one is no node": func(m *api.Msg) { m.Entries[1].Members = list(1, 9) },
	} {
		m, e := wire.ParseMsg(frames[0])
		if e != api.OK {
			t.Fatal(e)
		}
		turn(&m)
		bytes, e := wire.EncodeMsg(m)
		if e != api.OK {
			t.Fatalf("%s: %v", what, e)
		}
		f, _ := wire.Frame(bytes)
		checkBad(t, what, slices.Concat(f, x.last.Save()))
	}
	for _, id := range list(-1, 9, math.MinInt, math.MaxInt) {
		if x, e := Load(id, x.Save()); e != api.ErrBad || x != nil {
			t.Errorf("P1501: Load of id %d: %v", id, e)
		}
	}
}

// P1501: Load refuses a last instance that is not the one behind the past: of other members, behind another index, or at its end.
func TestLoadOtherInstance(t *testing.T) {
	x := ample(t)
	fresh := func(base int, members ...int) *paxos.Core {
		c, e := paxos.New(1, members, base)
		if e != api.OK {
			t.Fatal(e)
		}
		return c
	}
	at := func(base int, l ...api.Entry) *paxos.Core {
		c := fresh(base, 0, 1, 2)
		c.Step(api.Msg{From: 0, To: 1, Kind: 3, Term: 9, Index: base, Commit: base + len(l), Entries: l})
		if c.Commit() != base+len(l) {
			t.Fatalf("commit %d", c.Commit())
		}
		return c
	}
	d := letters("d")[0]
	for what, c := range map[string]*paxos.Core{
		"other members":               fresh(7, 0, 1),
		"a base below":                fresh(6, 0, 1, 2),
		"a base above":                fresh(8, 0, 1, 2),
		"a base below, and one more":  at(6, d),
		"a base below, and two more":  at(6, d, d),
		"a base above, and one more":  at(8, d),
		"the base of the chain":       at(2, d, d, d, d, d, d),
		"an end":                      at(7, change(1)),
		"an end behind another entry": at(7, d, change(1)),
	} {
		checkBad(t, what, slices.Concat(x.bytes(), c.Save()))
	}
	for what, c := range map[string]*paxos.Core{
		"fresh": fresh(7, 0, 1, 2), "one entry": at(7, d), "a seal": at(7, d, api.Entry{Kind: api.KMigrate, Client: 1, Seq: 1, To: 2}),
	} {
		if y, e := Load(1, slices.Concat(x.bytes(), c.Save())); e != api.OK || y.Commit() != c.Commit() || y.Sealed() != c.Sealed() || y.Instances() != 3 {
			t.Errorf("P1501: %s: Load: %v", what, e)
		}
	}
}

// P1501, P1503: one that is loaded keeps what it promised and voted for in the last instance, and stands by newer ballots alone.
func TestLoadBallot(t *testing.T) {
	y := checkLoaded(t, "ample", ample(t))
	term := y.Term()
	y.Step(api.Msg{From: 2, To: 1, Kind: 1, Term: term - 7, Index: 7, Commit: 9})
	y.Step(api.Msg{From: 2, To: 1, Kind: 3, Term: term - 7, Index: 9, Commit: 10, Terms: list(11), Entries: letters("xy")})
	if y.Term() != term || y.Commit() != 9 {
		t.Errorf("P1503: loaded: an elder ballot is followed")
	}
	stands(t, y, 0)
	if y.Term() <= term || numberOf(y.Term()) != 3 {
		t.Errorf("P1501: loaded: it stands in the term %d behind %d", y.Term(), term)
	}
	y.Step(api.Msg{From: 2, To: 1, Kind: 2, Term: y.Term(), Index: 9, Commit: 9})
	y.Step(api.Msg{From: 2, To: 1, Kind: 4, Term: y.Term(), Index: 10, Commit: 10})
	if e, ok := y.Entry(10); !ok || e.Data != "f" {
		t.Errorf("P1503: loaded: its own vote is not found: %+v", e)
	}
}
