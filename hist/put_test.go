package hist

import (
	"math"
	"testing"

	"synodal/api"
)

// P1003: the example.
func TestPutExample(t *testing.T) {
	h := New(0)
	checkAppend(t, h, 2, data("ab"), 2, api.OK)
	checkPut(t, h, 1, 2, list(3), data("c"), 2, api.OK)
	checkWhole(t, "the example", h, 0, list(2, 3), "ac")
}

// P1003: what becomes of the log a2 b2 c3 d3 e5, behind a base of 0 and a greater one; index is counted from base on.
func TestPut(t *testing.T) {
	for _, x := range []struct {
		what        string
		index, term int
		terms       []int
		l           string
		want        []int
		letters     string
	}{
		{"none at base", 0, 0, nil, "", list(2, 2, 3, 3, 5), "abcde"},
		{"none in the middle", 2, 2, nil, "", list(2, 2, 3, 3, 5), "abcde"},
		{"none at the end", 5, 5, nil, "", list(2, 2, 3, 3, 5), "abcde"},
		{"none at base, of whatever term", 0, 77, nil, "", list(2, 2, 3, 3, 5), "abcde"},

		{"all that stands there", 0, 0, list(2, 2, 3, 3, 5), "vwxyz", list(2, 2, 3, 3, 5), "abcde"},
		{"a front", 0, 0, list(2), "v", list(2, 2, 3, 3, 5), "abcde"},
		{"a greater front", 0, 0, list(2, 2, 3, 3), "vwxy", list(2, 2, 3, 3, 5), "abcde"},
		{"a middle", 1, 2, list(2, 3), "wx", list(2, 2, 3, 3, 5), "abcde"},
		{"the last", 4, 3, list(5), "z", list(2, 2, 3, 3, 5), "abcde"},

		{"another term at the first place", 0, 0, list(1), "v", list(1), "v"},
		{"a greater one there", 0, 0, list(3), "v", list(3), "v"},
		{"others at all places", 0, 0, list(4, 4, 4, 4, 6), "vwxyz", list(4, 4, 4, 4, 6), "vwxyz"},
		{"others from the first place on, of terms that stood there", 0, 0, list(1, 2, 3, 3, 5), "vwxyz", list(1, 2, 3, 3, 5), "vwxyz"},
		{"another term in the middle", 2, 2, list(2), "x", list(2, 2, 2), "abx"},
		{"a greater one in the middle", 2, 2, list(4), "x", list(2, 2, 4), "abx"},
		{"another one behind some that stay", 1, 2, list(2, 3, 4), "wxy", list(2, 2, 3, 4), "abcy"},
		{"more behind it, of a term that stood there", 1, 2, list(2, 2, 3, 5), "wxyz", list(2, 2, 2, 3, 5), "abxyz"},
		{"another term at the last place", 4, 3, list(4), "z", list(2, 2, 3, 3, 4), "abcdz"},
		{"a greater one there, and more", 4, 3, list(6, 6, 7), "xyz", list(2, 2, 3, 3, 6, 6, 7), "abcdxyz"},
		{"all but the last one stays", 0, 0, list(2, 2, 3, 3, 3), "vwxyz", list(2, 2, 3, 3, 3), "abcdz"},

		{"one behind the end", 5, 5, list(5), "z", list(2, 2, 3, 3, 5, 5), "abcdez"},
		{"several behind the end", 5, 5, list(5, 6, 9), "xyz", list(2, 2, 3, 3, 5, 5, 6, 9), "abcdexyz"},
		{"over the end", 3, 3, list(3, 5, 5, 8), "wxyz", list(2, 2, 3, 3, 5, 5, 8), "abcdeyz"},
		{"all and more", 0, 0, list(2, 2, 3, 3, 5, 7), "uvwxyz", list(2, 2, 3, 3, 5, 7), "abcdez"},
		{"behind base, of whatever term", 0, -3, list(2, 4), "vw", list(2, 4), "aw"},
		{"behind base, of the first one's", 0, 4, list(4), "v", list(4), "v"},
	} {
		for _, base := range list(0, 1, 7, 50) {
			h := logOf(t, base, list(2, 2, 3, 3, 5), "abcde")
			for range 2 { // once more it changes nothing, as all of it stands there
				checkPut(t, h, base+x.index, x.term, x.terms, data(x.l), base+x.index+len(x.l), api.OK)
				checkWhole(t, x.what, h, base, x.want, x.letters)
			}
		}
	}
}

// P1003: an empty log takes entries behind base, of whatever term that is said to be.
func TestPutIntoEmpty(t *testing.T) {
	for _, base := range list(0, 1, 9, 61) {
		for _, term := range list(math.MinInt, -1, 0, 1, 2) {
			h := New(base)
			checkPut(t, h, base, term, nil, nil, base, api.OK)
			checkPut(t, h, base, term, []int{}, []api.Entry{}, base, api.OK)
			checkPut(t, h, base, term, list(2, 2, math.MaxInt), data("abc"), base+3, api.OK)
			checkWhole(t, "put", h, base, list(2, 2, math.MaxInt), "abc")
		}
	}
}

// P1003: what Put takes away stands nowhere: the log goes on behind what was put.
func TestGoneStaysGone(t *testing.T) {
	h := logOf(t, 2, list(1, 2, 3, 4), "abcd")
	checkPut(t, h, 3, 1, list(5), data("x"), 4, api.OK)
	checkWhole(t, "put", h, 2, list(1, 5), "ax")
	checkPut(t, h, 6, 4, nil, nil, 0, api.ErrNone)
	checkPut(t, h, 5, 3, nil, nil, 0, api.ErrNone)
	checkPut(t, h, 4, 2, nil, nil, 0, api.ErrNone)
	checkAppend(t, h, 4, data("y"), 0, api.ErrArg)
	checkAppend(t, h, 5, data("yz"), 6, api.OK)
	checkWhole(t, "appended", h, 2, list(1, 5, 5, 5), "axyz")
}

// refusal is a Put that is refused, and by what.
type refusal struct {
	index, term int
	terms       []int
	count       int
	want        api.Errno
}

// checkRefusals puts each into a log a2 b2 c3 behind 3 that is to stay so.
func checkRefusals(t *testing.T, all []refusal) {
	t.Helper()
	for _, x := range all {
		h := logOf(t, 3, list(2, 2, 3), "abc")
		checkPut(t, h, x.index, x.term, x.terms, make([]api.Entry, x.count), 0, x.want)
		checkWhole(t, "refused", h, 3, list(2, 2, 3), "abc")
	}
}

// P1003: each error by itself.
func TestPutRefuses(t *testing.T) {
	checkRefusals(t, []refusal{
		{3, 0, nil, 1, api.ErrArg}, // not as many
		{3, 0, list(2), 0, api.ErrArg},
		{3, 0, list(2, 2), 1, api.ErrArg},
		{3, 0, list(2), 2, api.ErrArg},
		{6, 3, list(3, 3, 3), 2, api.ErrArg},
		{6, 3, list(3), 100000, api.ErrArg},

		{3, 0, list(0), 1, api.ErrArg}, // below 1
		{3, -9, list(-1), 1, api.ErrArg},
		{3, math.MinInt, list(math.MinInt), 1, api.ErrArg},
		{3, 0, list(0, 1), 2, api.ErrArg},
		{3, -5, list(-5, 0, 1), 3, api.ErrArg},

		{6, 3, list(4, 3), 2, api.ErrArg}, // falling
		{3, 0, list(2, 2, 3, 2), 4, api.ErrArg},
		{6, 3, list(3, 4, 0), 3, api.ErrArg},
		{6, 3, list(3, math.MaxInt, math.MinInt), 3, api.ErrArg},

		{6, 3, list(2), 1, api.ErrArg}, // the first one below term
		{5, 2, list(1), 1, api.ErrArg},
		{5, 2, list(1, 2), 2, api.ErrArg},
		{3, 4, list(3), 1, api.ErrArg},
		{3, math.MaxInt, list(math.MaxInt - 1), 1, api.ErrArg},

		{2, 0, nil, 0, api.ErrArg}, // below base
		{2, 2, list(2), 1, api.ErrArg},
		{0, 0, nil, 0, api.ErrArg},
		{-1, 0, nil, 0, api.ErrArg},
		{math.MinInt, 0, list(2), 1, api.ErrArg},
		{math.MinInt + 1, 2, nil, 0, api.ErrArg},

		{7, 3, nil, 0, api.ErrNone}, // above Last
		{7, 0, nil, 0, api.ErrNone},
		{7, 3, list(3), 1, api.ErrNone},
		{64, 3, nil, 0, api.ErrNone},
		{math.MaxInt, 3, nil, 0, api.ErrNone},
		{math.MaxInt - 1, 0, list(3), 1, api.ErrNone},

		{4, 1, nil, 0, api.ErrNone}, // another term there
		{4, 3, nil, 0, api.ErrNone},
		{4, 0, list(2), 1, api.ErrNone},
		{4, -1, list(2), 1, api.ErrNone},
		{5, 3, list(3), 1, api.ErrNone},
		{6, 2, list(3), 1, api.ErrNone},
		{6, 4, list(4), 1, api.ErrNone},
		{6, math.MaxInt, nil, 0, api.ErrNone},
		{6, math.MinInt, nil, 0, api.ErrNone},

		{3, 0, ofTerm(62, 2), 62, api.ErrFull}, // no room
		{4, 2, ofTerm(61, 2), 61, api.ErrFull},
		{6, 3, ofTerm(59, 3), 59, api.ErrFull},
		{6, 3, ofTerm(100000, 3), 100000, api.ErrFull},
	})
}

// ofTerm is so many terms, all the same.
func ofTerm(count, term int) []int {
	out := make([]int, count)
	for i := range out {
		out[i] = term
	}
	return out
}

// P1003, P6: where several errors are in place the first one that is named is told.
func TestPutFirstError(t *testing.T) {
	checkRefusals(t, []refusal{
		{7, 3, list(3), 0, api.ErrArg}, // not as many, and no such place
		{math.MaxInt, 3, nil, 1, api.ErrArg},
		{6, 2, list(3), 2, api.ErrArg},
		{6, 3, ofTerm(100, 3), 99, api.ErrArg}, // and no room
		{7, 0, list(0), 1, api.ErrArg},         // below 1, and no such place
		{6, 2, list(3, 2), 2, api.ErrArg},      // falling, and of another term
		{6, 4, list(3), 1, api.ErrArg},         // below term, which is another one
		{9, 9, list(8), 1, api.ErrArg},
		{6, 3, append(ofTerm(99, 3), 2), 100, api.ErrArg}, // falling at the end, and no room
		{3, 0, append(ofTerm(99, 3), 0), 100, api.ErrArg},
		{2, 0, ofTerm(99, 3), 99, api.ErrArg},    // below base, and no room
		{7, 3, ofTerm(100, 3), 100, api.ErrNone}, // no such place, and no room
		{math.MaxInt, 3, ofTerm(100, 3), 100, api.ErrNone},
		{65, 3, nil, 0, api.ErrNone},
		{6, 2, ofTerm(100, 3), 100, api.ErrNone}, // of another term, and no room
		{4, 1, ofTerm(61, 2), 61, api.ErrNone},
	})
}

// P1003: up to MaxLog entries have room, base counted, whether they stand there already or not; one more has not.
func TestPutFull(t *testing.T) {
	for _, base := range list(0, 1, 30, 63, 64) {
		room := api.MaxLog - base
		h := New(base)
		checkPut(t, h, base, 0, ofTerm(room+1, 2), make([]api.Entry, room+1), 0, api.ErrFull)
		checkWhole(t, "refused", h, base, nil, "")
		checkPut(t, h, base, 0, ofTerm(room, 2), make([]api.Entry, room), api.MaxLog, api.OK)
		m := newModel(base)
		m.append(2, make([]api.Entry, room)...)
		m.check(t, "full", h)
		checkPut(t, h, api.MaxLog, 2, nil, nil, api.MaxLog, api.OK)
		checkPut(t, h, api.MaxLog, 2, list(2), data("x"), 0, api.ErrFull)
		checkPut(t, h, base, 0, ofTerm(room, 2), make([]api.Entry, room), api.MaxLog, api.OK)
		checkPut(t, h, base, 0, ofTerm(room+1, 2), make([]api.Entry, room+1), 0, api.ErrFull)
		checkPut(t, h, base, 0, ofTerm(room+1, 3), make([]api.Entry, room+1), 0, api.ErrFull) // the full log would be gone first
		m.check(t, "refused", h)
	}
	h := logOf(t, 60, list(1, 2, 3, 4), "abcd")
	checkPut(t, h, 62, 2, list(5, 5, 5), data("xyz"), 0, api.ErrFull)
	checkWhole(t, "refused", h, 60, list(1, 2, 3, 4), "abcd")
	checkPut(t, h, 62, 2, list(5, 5), data("yz"), 64, api.OK)
	checkWhole(t, "put", h, 60, list(1, 2, 5, 5), "abyz")
}

// P1003: behind a base above MaxLog not even none have room, as the base comes to more by itself; other errors are told as ever.
func TestPutBehindGreatBase(t *testing.T) {
	for _, base := range list(65, 66, 1000, 1<<40-1, math.MaxInt-1, math.MaxInt) {
		h := New(base)
		checkPut(t, h, base, 0, nil, nil, 0, api.ErrFull)
		checkPut(t, h, base, 3, list(3), data("x"), 0, api.ErrFull)
		checkPut(t, h, base, 3, ofTerm(100, 3), make([]api.Entry, 100), 0, api.ErrFull)
		checkPut(t, h, base, 0, list(1), nil, 0, api.ErrArg)
		checkPut(t, h, base, 2, list(1), data("x"), 0, api.ErrArg)
		checkPut(t, h, base-1, 0, nil, nil, 0, api.ErrArg)
		checkPut(t, h, math.MinInt, 0, nil, nil, 0, api.ErrArg)
		if base < math.MaxInt {
			checkPut(t, h, base+1, 0, nil, nil, 0, api.ErrNone)
			checkPut(t, h, math.MaxInt, 3, list(3), data("x"), 0, api.ErrNone)
		}
		checkWhole(t, "refused", h, base, nil, "")
	}
}
