package hist

import (
	"math"
	"slices"
	"testing"

	"synodal/api"
)

// bases are some that a log may begin behind: the least, ordinary ones, those about MaxLog, and far above it.
var bases = []int{0, 1, 2, 5, 30, 62, 63, 64, 65, 66, 1000, 1<<40 - 1}

// P1001: a log is empty at first, whatever it begins behind.
func TestNew(t *testing.T) {
	for _, base := range bases {
		checkWhole(t, "new", New(base), base, nil, "")
	}
	checkWhole(t, "at the end", New(math.MaxInt), math.MaxInt, nil, "")
	checkWhole(t, "near the end", New(math.MaxInt-1), math.MaxInt-1, nil, "")
}

// P1001: what Last, Term, Entry and From tell of each index, one by one.
func TestReads(t *testing.T) {
	h := logOf(t, 5, list(2, 2, 7), "abc")
	if h.Last() != 8 {
		t.Errorf("Last: %d", h.Last())
	}
	for i, want := range map[int]int{math.MinInt: 0, -1: 0, 0: 0, 1: 0, 4: 0, 5: 0, 6: 2, 7: 2, 8: 7, 9: 0, 10: 0, math.MaxInt: 0} {
		if h.Term(i) != want {
			t.Errorf("Term(%d): %d, not %d", i, h.Term(i), want)
		}
	}
	for i, want := range map[int]string{math.MinInt: "", -1: "", 0: "", 1: "", 4: "", 5: "", 6: "a", 7: "b", 8: "c", 9: "", 10: "", math.MaxInt: ""} {
		e, is := h.Entry(i)
		if e.Data != want || is != (want != "") {
			t.Errorf("Entry(%d): %+v, %v", i, e, is)
		}
		if !is && !same(e, api.Entry{}) {
			t.Errorf("P4: Entry(%d): %+v", i, e)
		}
	}
	for i, want := range map[int]int{math.MinInt: 3, -1: 3, 0: 3, 1: 3, 4: 3, 5: 3, 6: 3, 7: 2, 8: 1, 9: 0, 10: 0, math.MaxInt: 0} {
		terms, l := h.From(i)
		if !slices.Equal(terms, list(2, 2, 7)[3-want:]) || !slices.EqualFunc(l, data("abc")[3-want:], same) {
			t.Errorf("From(%d): %v, %+v", i, terms, l)
		}
	}
}

// P1001: the same of logs with no, one and more entries, behind each base that has room for them.
func TestReadsBehindBases(t *testing.T) {
	terms, letters := list(1, 1, 3, 4, 4, 9), "abcdef"
	for _, base := range bases {
		for count := range len(letters) + 1 {
			if base+count > api.MaxLog {
				break
			}
			h := logOf(t, base, terms[:count], letters[:count])
			checkWhole(t, "appended", h, base, terms, letters[:count])
		}
	}
}

// allKinds are entries of each kind, with fields of all kinds, and of kinds that there are not; a log asks nothing of them.
func allKinds() []api.Entry {
	return []api.Entry{
		{},
		{Kind: api.KNone},
		{Kind: api.KData, Client: 3, Seq: 9, Data: "sixteen bytes ..", To: api.Chain},
		{Kind: api.KConf, Client: 8, Seq: 1<<40 - 1, Members: list(0, 1, 2, 3, 4, 5, 6)},
		{Kind: api.KConf, Members: list(9, 9, -1)},
		{Kind: api.KMigrate, Client: 1, Seq: 2, To: api.Raft},
		{Kind: api.KDone, Members: list(4)},
		{Kind: 5, Client: -1, Seq: math.MinInt, Data: "\x00\xff, and more bytes than an entry may have", Members: list(math.MaxInt, math.MinInt), To: -7},
		{Kind: math.MinInt},
		{Kind: math.MaxInt, Members: make([]int, 1000)},
	}
}

// P1001, P1002, P1003: an entry is told as it was handed in, all fields of it, by Append and by Put.
func TestEntriesStayWhole(t *testing.T) {
	all := allKinds()
	appended, put := New(7), New(7)
	checkAppend(t, appended, 4, all, 17, api.OK)
	checkPut(t, put, 7, 0, ofTerm(len(all), 4), all, 17, api.OK)
	m := newModel(7)
	m.append(4, allKinds()...)
	m.check(t, "Append", appended)
	m.check(t, "Put", put)
}

// P1002: none, one and several at a time, with a term that is the last entry's, and above it.
func TestAppend(t *testing.T) {
	h := New(3)
	checkAppend(t, h, 2, nil, 3, api.OK)
	checkAppend(t, h, 1, []api.Entry{}, 3, api.OK) // the empty one ahead was of no term
	checkWhole(t, "none", h, 3, nil, "")
	checkAppend(t, h, 2, data("a"), 4, api.OK)
	checkAppend(t, h, 2, data("bc"), 6, api.OK)
	checkWhole(t, "of one term", h, 3, list(2, 2, 2), "abc")
	checkAppend(t, h, 9, nil, 6, api.OK) // and leaves no term behind
	checkAppend(t, h, 3, data("d"), 7, api.OK)
	checkAppend(t, h, 1<<40-1, data("efg"), 10, api.OK)
	checkWhole(t, "of three terms", h, 3, list(2, 2, 2, 3, 1<<40-1, 1<<40-1, 1<<40-1), "abcdefg")
	checkAppend(t, h, math.MaxInt, data("h"), 11, api.OK)
	checkAppend(t, h, math.MaxInt, data("i"), 12, api.OK)
	if h.Term(12) != math.MaxInt {
		t.Errorf("Term: %d", h.Term(12))
	}
}

// P1002, P5: a term below 1, or below the last entry's, is refused, also with no entries, and nothing is changed.
func TestAppendRefusesTerms(t *testing.T) {
	for _, l := range [][]api.Entry{nil, data("x"), data("xyz"), make([]api.Entry, 100)} {
		for _, base := range bases {
			h := New(base)
			for _, term := range list(0, -1, math.MinInt) {
				checkAppend(t, h, term, l, 0, api.ErrArg)
			}
			checkWhole(t, "empty", h, base, nil, "")
		}
		h := logOf(t, 2, list(3, 5), "ab")
		for _, term := range list(4, 3, 2, 1, 0, -1, math.MinInt) {
			checkAppend(t, h, term, l, 0, api.ErrArg)
			checkWhole(t, "refused", h, 2, list(3, 5), "ab")
		}
	}
	one := logOf(t, 0, list(1), "a")
	checkAppend(t, one, 0, data("b"), 0, api.ErrArg)
	checkAppend(t, one, 1, data("b"), 2, api.OK)
}

// P1002, P5: up to MaxLog entries have room, base counted, at once or one by one; one more has not, and changes nothing.
func TestAppendFull(t *testing.T) {
	for _, base := range list(0, 1, 2, 5, 30, 62, 63, 64) {
		room := api.MaxLog - base
		atOnce, oneByOne := New(base), New(base)
		checkAppend(t, atOnce, 1, make([]api.Entry, room+1), 0, api.ErrFull)
		checkAppend(t, atOnce, 1, make([]api.Entry, 100000), 0, api.ErrFull)
		checkWhole(t, "refused", atOnce, base, nil, "")
		checkAppend(t, atOnce, 1, make([]api.Entry, room), api.MaxLog, api.OK)
		m := newModel(base)
		for i := range room {
			checkAppend(t, oneByOne, 1, make([]api.Entry, room-i+1), 0, api.ErrFull)
			checkAppend(t, oneByOne, 1, make([]api.Entry, 1), base+i+1, api.OK)
			m.append(1, api.Entry{})
		}
		for _, h := range []*Hist{atOnce, oneByOne} {
			checkAppend(t, h, 1, nil, api.MaxLog, api.OK)
			checkAppend(t, h, 2, data("x"), 0, api.ErrFull)
			checkAppend(t, h, 1, data("xy"), 0, api.ErrFull)
			m.check(t, "full", h)
		}
	}
}

// P1002: behind a base above MaxLog there is no room, not even for none: Last() is above it then, too.
func TestAppendBehindGreatBase(t *testing.T) {
	for _, base := range list(65, 66, 1000, 1<<40-1, math.MaxInt-64, math.MaxInt-1, math.MaxInt) {
		h := New(base)
		for _, count := range list(0, 1, 2, 64, 100) {
			checkAppend(t, h, 1, make([]api.Entry, count), 0, api.ErrFull)
		}
		checkWhole(t, "refused", h, base, nil, "")
	}
}

// P1002, P6: of both errors ErrArg is told.
func TestAppendFirstError(t *testing.T) {
	h := logOf(t, 62, list(4, 4), "ab")
	for _, term := range list(math.MinInt, -1, 0, 1, 3) {
		checkAppend(t, h, term, data("x"), 0, api.ErrArg)
		checkAppend(t, New(65), min(term, 0), nil, 0, api.ErrArg)
		checkAppend(t, New(math.MaxInt), min(term, 0), data("x"), 0, api.ErrArg)
	}
	checkAppend(t, h, 4, data("x"), 0, api.ErrFull)
	checkWhole(t, "refused", h, 62, list(4, 4), "ab")
}

// P1004: a lesser, the same and a greater term, each with a lesser, the same and a greater last index.
func TestNewer(t *testing.T) {
	h := logOf(t, 4, list(2, 3, 3), "abc")
	for _, x := range []struct {
		last, term int
		want       bool
	}{
		{6, 2, false}, {7, 2, false}, {8, 2, false}, {math.MaxInt, 2, false},
		{6, 3, false}, {7, 3, true}, {8, 3, true},
		{6, 4, true}, {7, 4, true}, {8, 4, true},
		{0, 3, false}, {math.MinInt, 3, false}, {math.MaxInt, 3, true},
		{0, 4, true}, {math.MinInt, 4, true}, {0, math.MaxInt, true},
		{9, 0, false}, {9, -1, false}, {math.MaxInt, math.MinInt, false},
	} {
		if h.Newer(x.last, x.term) != x.want {
			t.Errorf("Newer(%d, %d): %v", x.last, x.term, !x.want)
		}
	}
	checkWhole(t, "asked", h, 4, list(2, 3, 3), "abc")
}

// P1004: the last term is the last entry's, whatever stood there and is gone.
func TestNewerBehindPut(t *testing.T) {
	h := logOf(t, 0, list(5, 5, 5), "abc")
	checkPut(t, h, 0, 0, list(2), data("x"), 1, api.OK)
	if !h.Newer(1, 2) || h.Newer(0, 2) || h.Newer(9, 1) || !h.Newer(0, 3) {
		t.Error("Newer asks for what is gone")
	}
}

// P1004: an empty log's last term is 0, and its last index its base.
func TestNewerOfEmpty(t *testing.T) {
	for _, base := range bases {
		h := New(base)
		for _, x := range []struct {
			last, term int
			want       bool
		}{
			{base, 0, true}, {base + 1, 0, true}, {math.MaxInt, 0, true},
			{base - 1, 0, false}, {math.MinInt, 0, false},
			{base, 1, true}, {base - 1, 1, true}, {math.MinInt, 1, true},
			{base, -1, false}, {base + 1, -1, false}, {math.MaxInt, math.MinInt, false},
		} {
			if h.Newer(x.last, x.term) != x.want {
				t.Errorf("behind %d: Newer(%d, %d): %v", base, x.last, x.term, !x.want)
			}
		}
	}
}

// P7: a log is nobody else's, and as empty as any other.
func TestLogsAreOwn(t *testing.T) {
	a, b := New(1), New(1)
	checkAppend(t, a, 3, data("ab"), 3, api.OK)
	checkWhole(t, "the other", b, 1, nil, "")
	checkAppend(t, b, 2, data("x"), 2, api.OK)
	checkPut(t, b, 2, 2, list(4, 4), data("yz"), 4, api.OK)
	checkWhole(t, "the one", a, 1, list(3, 3), "ab")
	checkWhole(t, "the other", b, 1, list(2, 4, 4), "xyz")
	checkWhole(t, "a third", New(1), 1, nil, "")
}

// P1, P8: calls end, also where the base is one that may not be.
func TestBaseBelowZero(t *testing.T) {
	ends := list(math.MinInt, math.MinInt+1, math.MinInt+64, -65, -1, 0, 1, 64, math.MaxInt-1, math.MaxInt)
	for _, base := range list(-1, -2, -64, -65, -1000, math.MinInt+64, math.MinInt+1, math.MinInt) {
		h := New(base)
		for _, i := range append(ends, base-1, base, base+1, base+3) {
			for _, term := range ends {
				h.Append(term, allKinds()...)
				h.Put(i, term, nil, nil)
				h.Put(i, term, list(1, 2, 3), data("abc"))
				h.Newer(i, term)
			}
			h.Last()
			h.Term(i)
			h.Entry(i)
			h.From(i)
			h.Config(api.Config{Old: list(i), New: list(i, i)})
		}
	}
}
