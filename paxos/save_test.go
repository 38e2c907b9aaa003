package paxos

import (
	"math"
	"slices"
	"strconv"
	"strings"
	"testing"

	"synodal/api"
	"synodal/conf"
	"synodal/wire"
)

// checkLoaded holds a core that is loaded from what another one saved against that one.
func checkLoaded(t *testing.T, what string, x *Core) *Core {
	t.Helper()
	b := x.Save()
	if len(b) == 0 || len(b) > 11000 || !slices.Equal(x.Save(), b) {
		t.Fatalf("%s: Save: %d bytes", what, len(b))
	}
	y, e := Load(x.id, b)
	if e != api.OK {
		t.Fatalf("%s: Load: %v", what, e)
	}
	if y.Role() != api.Follower || len(y.Out()) > 0 {
		t.Errorf("%s: a loaded core is of role %d", what, y.Role())
	}
	if y.Term() != x.Term() || y.Commit() != x.Commit() || y.Sealed() != x.Sealed() || !conf.Same(y.Config(), x.Config()) {
		t.Errorf("%s: term %d, commit %d, sealed %v, %v", what, y.Term(), y.Commit(), y.Sealed(), y.Config())
	}
	for i := x.base - 1; i <= x.Commit()+1; i++ {
		one, is := x.Entry(i)
		other, ok := y.Entry(i)
		if is != ok || !wire.SameEntry(one, other) {
			t.Errorf("%s: at %d: %+v, not %+v", what, i, other, one)
		}
	}
	one, is := x.open()
	other, ok := y.open()
	if is != ok || one.Slot != other.Slot || one.Ballot != other.Ballot || !wire.SameEntry(one.Entry, other.Entry) {
		t.Errorf("%s: its vote is %+v, not %+v", what, other, one)
	}
	if !slices.Equal(y.Save(), b) {
		t.Errorf("%s: a loaded core saves other bytes", what)
	}
	return y
}

// P1401: behind each call of a script a core that is loaded has what was saved.
func TestSaveBehindEachCall(t *testing.T) {
	for seed := range 40 {
		x := picks(seed)
		s := drawn(&x)
		s.steps, s.halts, s.loads = 1, 0, 0
		g := newGroup(t, s.cores, s.base, x.members(s.cores)...)
		for range 250 {
			g.play(&x, s)
			for id, c := range g.cores {
				checkLoaded(t, "seed "+strconv.Itoa(seed)+", core "+strconv.Itoa(id), c)
			}
		}
	}
}

// P1401: the most that may be committed, and one vote more, is saved in 11000 bytes.
func TestSaveGreatest(t *testing.T) {
	for _, base := range list(0, 1, 40, 55, 56, 64) {
		x := newCore(t, 8, base, 1, 3, 4, 5, 6, 7, 8)
		m := api.Msg{From: 0, To: 8, Kind: offer, Term: 9 << 36, Index: base, Commit: max(base, 55)}
		for range max(0, 55-base) {
			m.Entries = append(m.Entries, api.Entry{Kind: api.KData, Client: 1<<40 - 1, Seq: 1<<40 - 1, Data: strings.Repeat("z", 16)})
		}
		if base < 56 {
			m.Terms = list(m.Term)
			m.Entries = append(m.Entries, api.Entry{Kind: api.KConf, Client: 1<<40 - 1, Seq: 1<<40 - 1, Members: list(2, 3, 4, 5, 6, 7, 8)})
		}
		x.Step(m)
		if _, ok := x.open(); x.Commit() != max(base, 55) || x.Term() != 9<<36 || ok != (base < 56) {
			t.Fatalf("base %d: commit %d, term %d", base, x.Commit(), x.Term())
		}
		checkLoaded(t, "base "+strconv.Itoa(base), x)
	}
}

// ample is a core that has a bit of all: entries that are committed, and a vote of a ballot below what it promised.
func ample(t *testing.T) *Core {
	t.Helper()
	x := newCore(t, 1, 2, 0, 1, 2)
	x.Step(api.Msg{From: 2, To: 1, Kind: offer, Term: 11, Index: 2, Commit: 4, Terms: list(11), Entries: letters("abc")})
	x.Step(api.Msg{From: 0, To: 1, Kind: ask, Term: 18, Index: 2, Commit: 2})
	return x
}

func checkBad(t *testing.T, what string, b []byte) {
	t.Helper()
	if x, e := Load(1, b); e != api.ErrBad || x != nil {
		t.Fatalf("%s: Load: %v", what, e)
	}
}

// P1401: Load refuses bytes that are cut off, turned, or have more behind.
func TestLoadOtherBytes(t *testing.T) {
	for _, x := range []*Core{newCore(t, 1, 0, 1), ample(t)} {
		b := x.Save()
		if _, e := Load(1, b); e != api.OK {
			t.Fatalf("Load: %v", e)
		}
		for cut := range b {
			checkBad(t, "cut off behind "+strconv.Itoa(cut), b[:cut])
			checkBad(t, "from "+strconv.Itoa(cut+1)+" on", b[cut+1:])
		}
		for at := range b {
			for bit := range 8 {
				turned := slices.Clone(b)
				turned[at] ^= 1 << bit
				checkBad(t, "byte "+strconv.Itoa(at)+" turned", turned)
			}
		}
		for _, more := range [][]byte{{0}, {255}, make([]byte, 7), make([]byte, 8), b} {
			checkBad(t, "more behind", slices.Concat(b, more))
			checkBad(t, "more ahead", slices.Concat(more, b))
		}
		slices.Reverse(b)
		checkBad(t, "backwards", b)
	}
	checkBad(t, "nothing", nil)
	checkBad(t, "an empty frame", make([]byte, 8))
	checkBad(t, "no frame", []byte("no core saved this"))
	checkBad(t, "too long a length", []byte{255, 255, 255, 255, 0, 0, 0, 0})
}

// P1401: Load refuses what no core would save, though the sum is right; and an id that is none.
func TestLoadNonsense(t *testing.T) {
	b := ample(t).Save()
	frames, _, _ := wire.Split(b)
	for what, turn := range map[string]func(m *api.Msg){
		"a sender":                     func(m *api.Msg) { m.From = 1 },
		"a receiver":                   func(m *api.Msg) { m.To = 1 },
		"a generation":                 func(m *api.Msg) { m.Gen = 1 },
		"another kind":                 func(m *api.Msg) { m.Kind = offer },
		"a yes":                        func(m *api.Msg) { m.Yes = true },
		"a last one":                   func(m *api.Msg) { m.Last = 1 },
		"a joint configuration":        func(m *api.Msg) { m.Config.Old = list(1) },
		"no members":                   func(m *api.Msg) { m.Config.New = nil },
		"eight members":                func(m *api.Msg) { m.Config.New = upTo(8) },
		"members that fall":            func(m *api.Msg) { m.Config.New = list(2, 1) },
		"a base below 0":               func(m *api.Msg) { m.Index, m.Commit = -1, 1 },
		"a base too high":              func(m *api.Msg) { m.Index, m.Commit = 65, 67 },
		"a base too high, alone":       func(m *api.Msg) { m.Index, m.Commit, m.Terms, m.Entries = 65, 65, nil, nil },
		"a base with no room":          func(m *api.Msg) { m.Index, m.Commit = 62, 64 },
		"a base with room for two":     func(m *api.Msg) { m.Index, m.Commit = 54, 56 },
		"too little committed":         func(m *api.Msg) { m.Commit = 1 },
		"less committed":               func(m *api.Msg) { m.Commit = 3 },
		"more committed":               func(m *api.Msg) { m.Commit = 5 },
		"too much committed":           func(m *api.Msg) { m.Commit = 9 },
		"a ballot below its vote's":    func(m *api.Msg) { m.Term = 10 },
		"a ballot 0":                   func(m *api.Msg) { m.Term = 0 },
		"a ballot 0, and no vote":      func(m *api.Msg) { m.Term, m.Terms, m.Entries = 0, nil, m.Entries[:2] },
		"a ballot below 0":             func(m *api.Msg) { m.Term, m.Commit, m.Terms, m.Entries = -1, 2, nil, nil },
		"a vote of the ballot 0":       func(m *api.Msg) { m.Terms[0] = 0 },
		"a vote without a ballot":      func(m *api.Msg) { m.Terms = nil },
		"a ballot without a vote":      func(m *api.Msg) { m.Entries = m.Entries[:2] },
		"two votes":                    func(m *api.Msg) { m.Terms, m.Entries = list(11, 11), append(m.Entries, letters("d")...) },
		"a filler":                     func(m *api.Msg) { m.Entries[0] = api.Entry{} },
		"a filler voted for":           func(m *api.Msg) { m.Entries[2] = api.Entry{Kind: api.KDone, Members: list(1)} },
		"an entry of nobody's":         func(m *api.Msg) { m.Entries[1].Client = 0 },
		"a change to the same members": func(m *api.Msg) { m.Entries[2] = change(0, 1, 2) },
		"a stop that is not the last":  func(m *api.Msg) { m.Entries[0] = change(1) },
		"a vote behind a stop":         func(m *api.Msg) { m.Entries[1] = api.Entry{Kind: api.KMigrate, Client: 1, Seq: 1, To: 1} },
		"base at the least of int":     func(m *api.Msg) { m.Index = math.MinInt },
		"base at the greatest of int":  func(m *api.Msg) { m.Index = math.MaxInt },
	} {
		m, e := wire.ParseMsg(frames[0])
		if e != api.OK {
			t.Fatal(e)
		}
		turn(&m)
		bytes, e := wire.EncodeMsg(m)
		if e != api.OK {
			t.Fatalf("%s: %v", what, e)
		}
		f, _ := wire.Frame(bytes)
		checkBad(t, what, f)
	}
	for _, id := range list(-1, 9, math.MinInt, math.MaxInt) {
		if x, e := Load(id, b); e != api.ErrBad || x != nil {
			t.Errorf("Load of id %d: %v", id, e)
		}
	}
}

func change(members ...int) api.Entry {
	return api.Entry{Kind: api.KConf, Client: 1, Seq: 1, Members: members}
}

// P1401, P1403: one that is loaded keeps what it promised and voted for, and never takes a ballot twice.
func TestLoadBallot(t *testing.T) {
	stood := newCore(t, 0, 0, 0, 1, 2)
	stands(t, stood, 0)
	led, _ := Load(0, stood.Save())
	ledBy(t, led, 2)
	led.Propose(letters("a")[0])
	voted := newCore(t, 0, 0, 0, 1, 2)
	voted.Step(api.Msg{From: 2, To: 0, Kind: offer, Term: 20, Terms: list(20), Entries: letters("b")})
	for what, x := range map[string]*Core{"a Candidate": stood, "a Leader": led, "one that voted": voted} {
		y := checkLoaded(t, what, x)
		term := y.Term()
		y.Step(api.Msg{From: 1, To: 0, Kind: ask, Term: 1})
		y.Step(api.Msg{From: 1, To: 0, Kind: offer, Term: 1, Commit: 1, Terms: list(1), Entries: letters("xy")})
		if y.Term() != term || y.Commit() != 0 {
			t.Errorf("%s, loaded: an elder ballot is followed", what)
		}
		y.Step(api.Msg{From: 1, To: 0, Kind: promise, Term: term}) // of what was asked for ahead
		if y.Role() != api.Follower {
			t.Errorf("%s, loaded: role %d by a promise that it did not ask for", what, y.Role())
		}
		stands(t, y, 0)
		if y.Term() <= term {
			t.Errorf("%s, loaded: it stands by the ballot %d behind %d", what, y.Term(), term)
		}
		y.Step(api.Msg{From: 1, To: 0, Kind: promise, Term: y.Term()})
		if want := map[string]string{"a Leader": "a", "one that voted": "b"}[what]; want != "" && (len(y.waits) != 1 || y.waits[0].Data != want) {
			t.Errorf("%s, loaded: its own vote is not found: %+v", what, y.waits)
		}
	}
}
