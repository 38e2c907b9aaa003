package core

import (
	"errors"
	"math"
	"slices"
	"strconv"
	"strings"
	"testing"

	"synodal/api"
	"synodal/wire"
)

func list(numbers ...int) []int { return numbers }

// A node is of the numbers 0 to 8; the others are all of these but one.
func TestNodes(t *testing.T) {
	for id, want := range map[int]bool{-1: false, 0: true, 8: true, 9: false, math.MinInt: false, math.MaxInt: false} {
		if IsNode(id) != want {
			t.Errorf("IsNode(%d): %v", id, !want)
		}
	}
	for id, want := range map[int][]int{
		0: {1, 2, 3, 4, 5, 6, 7, 8}, 4: {0, 1, 2, 3, 5, 6, 7, 8}, 8: {0, 1, 2, 3, 4, 5, 6, 7}, 9: {0, 1, 2, 3, 4, 5, 6, 7, 8},
	} {
		if got := Others(id); !slices.Equal(got, want) {
			t.Errorf("Others(%d): %v", id, got)
		}
	}
}

// A message counts that is to this core, of another one, of a term from 1 on, and such as may be sent.
func TestIsPost(t *testing.T) {
	for _, c := range []struct {
		m    api.Msg
		want bool
	}{
		{api.Msg{From: 1, To: 2, Kind: 1, Term: 1}, true},
		{api.Msg{From: 0, To: 2, Kind: 15, Term: math.MaxInt, Index: math.MinInt}, true},
		{api.Msg{From: 1, To: 3, Kind: 1, Term: 1}, false},
		{api.Msg{From: 2, To: 2, Kind: 1, Term: 1}, false},
		{api.Msg{From: -1, To: 2, Kind: 1, Term: 1}, false},
		{api.Msg{From: 9, To: 2, Kind: 1, Term: 1}, false},
		{api.Msg{From: 1, To: 2, Kind: 0, Term: 1}, false},
		{api.Msg{From: 1, To: 2, Kind: 16, Term: 1}, false},
		{api.Msg{From: 1, To: 2, Kind: 1, Term: 0}, false},
		{api.Msg{From: 1, To: 2, Kind: 1, Term: -1}, false},
		{api.Msg{From: 1, To: 2, Kind: 1, Term: 1, Terms: make([]int, 65)}, false},
		{api.Msg{From: 1, To: 2, Kind: 1, Term: 1, Entries: []api.Entry{{Kind: 5}}}, false},
	} {
		if IsPost(c.m, 2) != c.want {
			t.Errorf("IsPost(%+v): %v", c.m, !c.want)
		}
	}
}

// A message reaches a core of whatever term, if it is to that one, of another one, and such as may be sent.
func TestReaches(t *testing.T) {
	for _, term := range list(math.MinInt, -1, 0, 1, math.MaxInt) {
		for _, c := range []struct {
			m    api.Msg
			want bool
		}{
			{api.Msg{From: 1, To: 2, Kind: 1, Term: term}, true},
			{api.Msg{From: 1, To: 3, Kind: 1, Term: term}, false},
			{api.Msg{From: 2, To: 2, Kind: 1, Term: term}, false},
			{api.Msg{From: 9, To: 2, Kind: 1, Term: term}, false},
			{api.Msg{From: 1, To: 2, Kind: 16, Term: term}, false},
		} {
			if Reaches(c.m, 2) != c.want {
				t.Errorf("Reaches(%+v): %v", c.m, !c.want)
			}
		}
	}
}

// What is wrong with an entry is told by what comes first; what its kind has may be there, nothing else.
func TestUnfit(t *testing.T) {
	long := strings.Repeat("x", 17)
	for _, c := range []struct {
		kind, client, seq int
		data              string
		members           []int
		to                int
		want              api.Errno
	}{
		{api.KData, 1, 1, "", nil, 0, api.OK},
		{api.KData, 1, 1, long[1:], list(), 0, api.OK},
		{api.KConf, 1, 1, "", list(0, 1, 2, 3, 4, 5, 8), 0, api.OK},
		{api.KMigrate, 1, 1, "", nil, api.Raft, api.OK},
		{api.KMigrate, 1, 1, "", nil, api.Chain, api.OK},
		{api.KNone, 0, 0, long, nil, 7, api.ErrKind},
		{api.KDone, 1, 1, "", list(1), 0, api.ErrKind},
		{5, 1, 1, "", nil, 0, api.ErrKind},
		{-1, 1, 1, "", nil, 0, api.ErrKind},
		{api.KData, 0, 1, long, nil, 0, api.ErrArg},
		{api.KData, 1, 0, long, nil, 0, api.ErrArg},
		{api.KData, 1, 1, long, list(1), 1, api.ErrLong},
		{api.KData, 1, 1, "x", list(1), 0, api.ErrArg},
		{api.KData, 1, 1, "x", nil, 1, api.ErrArg},
		{api.KConf, 1, 0, "", nil, 0, api.ErrArg},
		{api.KConf, 1, 1, "x", nil, 1, api.ErrNone},
		{api.KConf, 1, 1, "x", make([]int, 8), 1, api.ErrMany},
		{api.KConf, 1, 1, "", list(2, 1), 0, api.ErrArg},
		{api.KConf, 1, 1, "x", list(1), 0, api.ErrArg},
		{api.KConf, 1, 1, "", list(1), 1, api.ErrArg},
		{api.KMigrate, 1, 1, "", nil, 0, api.ErrArg},
		{api.KMigrate, 1, 1, "", nil, 3, api.ErrArg},
		{api.KMigrate, 1, 1, "x", nil, 1, api.ErrArg},
		{api.KMigrate, 1, 1, "", list(1), 1, api.ErrArg},
	} {
		e := api.Entry{Kind: c.kind, Client: c.client, Seq: c.seq, Data: c.data, Members: c.members, To: c.to}
		err := Unfit(e)
		if (err == nil) != (c.want == api.OK) || Number(err) != c.want {
			t.Errorf("Unfit(%+v): %v, not %v", e, err, c.want)
		}
	}
}

// An error is of its number however it is wrapped; a flaw is ErrBad, whatever is in it.
func TestNumber(t *testing.T) {
	for _, e := range []api.Errno{
		api.ErrBad, api.ErrKind, api.ErrArg, api.ErrLong, api.ErrMany, api.ErrNone,
		api.ErrSeal, api.ErrLeader, api.ErrBusy, api.ErrIs, api.ErrFull,
	} {
		refusal := &Refusal{Kind: api.KConf, Inner: e}
		if Number(e) != e || Number(refusal) != e || Number(&Refusal{Kind: 1, Inner: refusal}) != e {
			t.Errorf("Number of %v: %v", e, Number(refusal))
		}
		flaw := &Flaw{Inner: e}
		if Number(flaw) != api.ErrBad || !errors.Is(flaw, e) {
			t.Errorf("Number of a flaw around %v: %v", e, Number(flaw))
		}
		if want := "entry of kind 2: " + e.Error(); refusal.Error() != want {
			t.Errorf("%q, not %q", refusal.Error(), want)
		}
		if want := "bad: " + e.Error(); flaw.Error() != want {
			t.Errorf("%q, not %q", flaw.Error(), want)
		}
	}
	if Number(nil) != api.OK || Number(errors.New("another one")) != api.OK {
		t.Errorf("Number of nothing: %v", Number(nil))
	}
}

// What a core begins with: a node, a base up to the most, members that may be; in that order.
func TestCheck(t *testing.T) {
	for _, c := range []struct {
		id      int
		members []int
		base    int
		want    api.Errno
	}{
		{0, list(0), 0, api.OK}, {8, list(1, 2), 64, api.OK},
		{-1, nil, 0, api.ErrArg}, {9, nil, 0, api.ErrArg}, {0, nil, -1, api.ErrArg}, {0, nil, 65, api.ErrArg},
		{0, nil, 0, api.ErrNone}, {0, make([]int, 8), 0, api.ErrMany}, {0, list(2, 1), 0, api.ErrArg},
	} {
		if e := Check(c.id, c.members, c.base); e != c.want {
			t.Errorf("Check(%d, %v, %d): %v, not %v", c.id, c.members, c.base, e, c.want)
		}
	}
}

// An entry is refused for what it is, ahead of what bars it; for neither it is not.
func TestRefuse(t *testing.T) {
	fit, unfit := api.Entry{Kind: api.KData, Client: 1, Seq: 1}, api.Entry{Kind: api.KData}
	full := func(api.Entry) error { return api.ErrFull }
	free := func(api.Entry) error { return nil }
	for _, c := range []struct {
		e      api.Entry
		barred func(api.Entry) error
		want   api.Errno
	}{{fit, free, api.OK}, {fit, full, api.ErrFull}, {unfit, free, api.ErrArg}, {unfit, full, api.ErrArg}} {
		err := Refuse(c.e, c.barred)
		var why *Refusal
		if Number(err) != c.want || (err == nil) != (c.want == api.OK) || err != nil && (!errors.As(err, &why) || why.Kind != api.KData) {
			t.Errorf("Refuse(%+v): %v, not %v", c.e, err, c.want)
		}
	}
}

// packed is a message as what lasts.
func packed(m api.Msg) []byte { return Pack(m) }

// all reads all of a message; some of it all but a Yes.
func all(m api.Msg) (api.Msg, api.Errno) { return m, api.OK }

func some(m api.Msg) (api.Msg, api.Errno) {
	m.Yes = false
	return m, api.OK
}

func none(api.Msg) (api.Msg, api.Errno) { return api.Msg{Term: 1}, api.ErrFull }

// What is packed is read again, in the kind of what lasts; other bytes are told.
func TestRestore(t *testing.T) {
	m := api.Msg{Term: 7, Index: 2, Last: -1, Commit: 4, Yes: true, Terms: list(3, 7), Entries: []api.Entry{{Kind: api.KData, Client: 1, Seq: 1, Data: "x"}, {}}, Config: api.Config{New: list(1, 2)}}
	b := Pack(m)
	m.Kind = savedKind
	if got, err := Restore(8, b, all, packed); err != nil || !wire.SameMsg(got, m) {
		t.Errorf("Restore: %+v, %v", got, err)
	}
	for cut := range b {
		checkFlaw(t, "cut off behind "+strconv.Itoa(cut), 0, b[:cut], all)
		turned := slices.Clone(b)
		turned[cut] ^= 1
		checkFlaw(t, "turned at "+strconv.Itoa(cut), 0, turned, all)
	}
	checkFlaw(t, "more behind", 0, append(slices.Clone(b), 0), all)
	checkFlaw(t, "two of them", 0, slices.Concat(b, b), all)
	f, _ := wire.Frame([]byte("no message"))
	checkFlaw(t, "no message", 0, f, all)
	checkFlaw(t, "no node", 9, b, all)
	checkFlaw(t, "a Yes that is not read", 0, b, some)
	checkFlaw(t, "what is not read", 0, b, none)
	m.Index = 65
	checkFlaw(t, "a base too high", 0, Pack(m), all)
	m.Index, m.Config.New = 2, nil
	checkFlaw(t, "no members", 0, Pack(m), all)
	m.Config.New, m.Kind = list(1), 3
	sent, _ := wire.EncodeMsg(m)
	f, _ = wire.Frame(sent)
	checkFlaw(t, "a message that is sent", 0, f, all)
}

func checkFlaw(t *testing.T, what string, id int, b []byte, read func(api.Msg) (api.Msg, api.Errno)) {
	t.Helper()
	if m, err := Restore(id, b, read, packed); Number(err) != api.ErrBad || !wire.SameMsg(m, api.Msg{}) {
		t.Errorf("%s: Restore: %+v, %v", what, m, err)
	}
}

// A twin is the same, and shares no memory with what it is of.
func TestTwin(t *testing.T) {
	for _, members := range [][]int{nil, list(), list(1, 2), append(list(1, 2, 3), 4)[:3]} {
		e := api.Entry{Kind: api.KConf, Client: 1, Seq: 2, Data: "x", Members: members, To: 1}
		twin := Twin(e)
		if !wire.SameEntry(twin, e) {
			t.Fatalf("Twin(%+v): %+v", e, twin)
		}
		was := slices.Clone(members)
		for i := range twin.Members[:cap(twin.Members)] {
			twin.Members[:cap(twin.Members)][i] = -1
		}
		if !slices.Equal(members, was) {
			t.Errorf("a twin's memory is that of %v", members)
		}
	}
}
