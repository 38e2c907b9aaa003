package wal

import (
	"bytes"
	"errors"
	"math/rand"
	"slices"
	"strings"
	"testing"

	"synodal/api"
	"synodal/tape"
	"synodal/wire"
)

func newTape(t *testing.T, room int) *tape.Tape {
	t.Helper()
	x, e := tape.New(room)
	if e != api.OK {
		t.Fatalf("New(%d): %v", room, e)
	}
	return x
}

// tapeOf is a tape on which just these bytes stand, synced.
func tapeOf(t *testing.T, room int, b []byte) *tape.Tape {
	t.Helper()
	x := newTape(t, room)
	checkErrno(t, "Replace", x.Replace(b), api.OK)
	return x
}

func opened(t *testing.T, x *tape.Tape) *Log {
	t.Helper()
	l, e := Open(x)
	if e != api.OK || l == nil {
		t.Fatalf("Open: %v, %v", l, e)
	}
	return l
}

// logOf is a log with these records, synced.
func logOf(t *testing.T, room int, rows ...string) (*tape.Tape, *Log) {
	t.Helper()
	x := newTape(t, room)
	l := opened(t, x)
	for _, r := range rows {
		checkErrno(t, "Append", l.Append([]byte(r)), api.OK)
	}
	checkErrno(t, "Sync", l.Sync(), api.OK)
	return x, l
}

// powerOff takes a tape's power and leaves its bytes.
func powerOff(t *testing.T, x *tape.Tape) {
	t.Helper()
	x.Stop(1)
	checkErrno(t, "Sync", x.Sync(), api.ErrDead)
}

func checkErrno(t *testing.T, what string, got, want api.Errno) {
	t.Helper()
	if got != want {
		t.Errorf("%s: %v, not %v", what, got, want)
	}
}

// frames lays records down as the document says it, by wire.Frame alone.
func frames(t *testing.T, rows ...string) []byte {
	t.Helper()
	var b []byte
	for _, r := range rows {
		f, e := wire.Frame([]byte(r))
		if e != api.OK {
			t.Fatalf("Frame: %v", e)
		}
		b = append(b, f...)
	}
	return b
}

func texts(rows [][]byte) []string {
	var out []string
	for _, r := range rows {
		out = append(out, string(r))
	}
	return out
}

func asBytes(rows []string) [][]byte {
	var out [][]byte
	for _, r := range rows {
		out = append(out, []byte(r))
	}
	return out
}

// checkLog holds what a log tells against the records that it must have.
func checkLog(t *testing.T, l *Log, want ...string) {
	t.Helper()
	if got := texts(l.All()); !slices.Equal(got, want) {
		t.Errorf("All: %.200q, not %.200q", got, want)
	}
	size := 0
	for _, r := range want {
		size += len(r) + 8
	}
	if got := l.Size(); got != size {
		t.Errorf("Size: %d, not %d", got, size)
	}
}

// check holds a log and its tape against the records: nothing else may stand there.
func check(t *testing.T, x *tape.Tape, l *Log, want ...string) {
	t.Helper()
	checkLog(t, l, want...)
	if got := x.Bytes(); !bytes.Equal(got, frames(t, want...)) {
		t.Errorf("the tape has %d bytes: %.200q", len(got), got)
	}
}

// checkOps says that so many operations were done since.
func checkOps(t *testing.T, x *tape.Tape, before, more int) {
	t.Helper()
	if got := x.Ops() - before; got != more {
		t.Errorf("%d operations, not %d", got, more)
	}
}

// checkRefused says that Open answers that error and no log, and leaves the tape's bytes and operations as they were.
func checkRefused(t *testing.T, x *tape.Tape, want api.Errno) {
	t.Helper()
	b, ops := x.Bytes(), x.Ops()
	if l, e := Open(x); e != want || l != nil {
		t.Errorf("Open: %v, %v, not %v", l, e, want)
	}
	if !bytes.Equal(x.Bytes(), b) {
		t.Errorf("Open changed the tape: %q, not %q", x.Bytes(), b)
	}
	checkOps(t, x, ops, 0)
}

// P401

func TestOpenNew(t *testing.T) {
	for _, room := range []int{1, 8, 1000, 1 << 30} {
		x := newTape(t, room)
		x.Stop(1)
		check(t, x, opened(t, x))
		checkOps(t, x, 0, 0)
	}
}

// A tape that ends behind a whole record is not written to: a power that would go finds no operation to go at.
func TestOpenWhole(t *testing.T) {
	for _, rows := range [][]string{{""}, {"", "", ""}, {"a"}, {"one", "", "three"}, {strings.Repeat("x", api.MaxRecord), "y"}} {
		x := tapeOf(t, 100000, frames(t, rows...))
		x.Stop(1)
		check(t, x, opened(t, x), rows...)
		checkOps(t, x, 1, 0)
		if x.Dead() {
			t.Errorf("%.50q: the power went", rows)
		}
	}
}

func TestOpenWithoutPower(t *testing.T) {
	whole := frames(t, "one", "two")
	bad := bytes.Clone(whole)
	bad[9] ^= 1
	long := append(bytes.Clone(whole), 1, 0, 0, 0)
	for _, b := range [][]byte{nil, whole, whole[:len(whole)-1], bad, long} { // ErrDead comes ahead of ErrSum, ErrLong
		x := tapeOf(t, 100, b)
		powerOff(t, x)
		checkRefused(t, x, api.ErrDead)
	}
}

// eachCut visits bytes that end within a record, at each of its bytes, with the whole records ahead of it.
func eachCut(t *testing.T, visit func(ahead []string, cut []byte)) {
	t.Helper()
	for _, ahead := range [][]string{nil, {"one"}, {"one", "", "three"}} {
		whole := frames(t, ahead...)
		for _, last := range []string{"", "a", "123456789", string(frames(t, "in", "ner")), strings.Repeat("\x00", 40), strings.Repeat("\xff", 40)} {
			f := frames(t, last)
			for k := 1; k < len(f); k++ {
				visit(ahead, append(bytes.Clone(whole), f[:k]...))
			}
		}
	}
}

// A part of a record is no more, by one Replace, and what is written then comes behind the last whole one.
func TestOpenPart(t *testing.T) {
	eachCut(t, func(ahead []string, cut []byte) {
		x := tapeOf(t, 200, cut)
		l := opened(t, x)
		check(t, x, l, ahead...)
		checkOps(t, x, 1, 1)
		x.Crash(0)
		check(t, x, opened(t, x), ahead...)
		checkErrno(t, "Append", l.Append([]byte("next")), api.OK)
		check(t, x, opened(t, x), append(slices.Clone(ahead), "next")...)
	})
}

// Where the tape has just room for the part there is room for the whole ones, too.
func TestOpenPartOfFullTape(t *testing.T) {
	part := frames(t, "one", "two")[:20]
	x := tapeOf(t, 20, part)
	check(t, x, opened(t, x), "one")
}

func TestOpenPartOfGreatRecord(t *testing.T) {
	for _, n := range []int{0, 1, 100, api.MaxRecord - 1} {
		part := frames(t, "one", strings.Repeat("x", api.MaxRecord))[:11+8+n]
		x := tapeOf(t, 100000, part)
		check(t, x, opened(t, x), "one")
	}
}

// Where the power goes while a part is taken away, that is not done; it is, when the tape is opened anew.
func TestOpenPowerGoes(t *testing.T) {
	eachCut(t, func(ahead []string, cut []byte) {
		x := tapeOf(t, 200, cut)
		for pick := range 3 {
			x.Stop(1)
			checkRefused(t, x, api.ErrDead)
			if !x.Dead() {
				t.Fatal("the power did not go")
			}
			checkRefused(t, x, api.ErrDead)
			if stay := x.Crash(pick); stay != 0 || !bytes.Equal(x.Bytes(), cut) {
				t.Fatalf("%d stayed: %q", stay, x.Bytes())
			}
		}
		check(t, x, opened(t, x), ahead...)
	})
}

// Bytes that are no records stay as they are; a power that would go finds no operation to go at.
func TestOpenSum(t *testing.T) {
	ahead, f := frames(t, "one", ""), frames(t, "123456789")
	for k := 4; k < len(f); k++ {
		for _, behind := range [][]byte{nil, {0}, {1, 0, 0, 0}, frames(t, "behind")} {
			b := slices.Concat(ahead, f, behind)
			b[len(ahead)+k] ^= 4
			x := tapeOf(t, 200, b)
			x.Stop(1)
			checkRefused(t, x, api.ErrSum)
			checkRefused(t, tapeOf(t, 200, b[len(ahead):]), api.ErrSum)
		}
	}
	checkRefused(t, tapeOf(t, 200, []byte{0, 0, 0, 0, 0, 0, 0, 1}), api.ErrSum)
}

func TestOpenLong(t *testing.T) {
	for _, ahead := range [][]byte{nil, frames(t, "one", "")} {
		for _, length := range [][]byte{{0, 1, 0, 1}, {1, 0, 0, 0}, {255, 255, 255, 255}} {
			for _, behind := range [][]byte{nil, {7}, {1, 2, 3, 4}, frames(t, "behind")} {
				x := tapeOf(t, 200, slices.Concat(ahead, length, behind))
				x.Stop(1)
				checkRefused(t, x, api.ErrLong)
			}
		}
	}
	x := tapeOf(t, 200, append(frames(t, "one"), 255, 255, 255)) // no length yet
	check(t, x, opened(t, x), "one")
}

// P401, P1: whatever the bytes are, Open answers as wire.Split does.
func TestOpenAnyBytes(t *testing.T) {
	r := rand.New(rand.NewSource(4))
	for range 3000 {
		b := frames(t, strings.Repeat("r", r.Intn(4)), strings.Repeat("s", r.Intn(4)))
		for range r.Intn(3) {
			b[r.Intn(len(b))] ^= byte(1 << r.Intn(8))
		}
		b = b[:r.Intn(len(b)+1)]
		rows, _, e := wire.Split(b)
		x := tapeOf(t, 100, b)
		if e != api.OK {
			checkRefused(t, x, e)
			continue
		}
		check(t, x, opened(t, x), texts(rows)...)
	}
}

// P402

func TestAppend(t *testing.T) {
	x := newTape(t, 1000)
	l := opened(t, x)
	var want []string
	for i, r := range []string{"a", "", "ccc", "\x00\xff\x00", "", "a"} {
		checkErrno(t, "Append", l.Append([]byte(r)), api.OK)
		want = append(want, r)
		check(t, x, l, want...)
		checkOps(t, x, 0, i+1)
	}
	checkErrno(t, "Append of no list", l.Append(nil), api.OK)
	check(t, x, l, append(want, "")...)
	if n := x.Crash(0); n != 0 || len(x.Bytes()) != 0 { // an Append syncs nothing
		t.Errorf("%d stayed: %q", n, x.Bytes())
	}
}

func TestAppendLong(t *testing.T) {
	x, l := logOf(t, 1<<20, "one")
	for _, n := range []int{api.MaxRecord + 1, api.MaxRecord + 256, 1 << 18} {
		ops := x.Ops()
		checkErrno(t, "Append of too many", l.Append(make([]byte, n)), api.ErrLong)
		check(t, x, l, "one")
		checkOps(t, x, ops, 0)
	}
	great := strings.Repeat("g", api.MaxRecord)
	checkErrno(t, "Append of MaxRecord", l.Append([]byte(great)), api.OK)
	checkErrno(t, "Append of one less", l.Append([]byte(great[1:])), api.OK)
	check(t, x, l, "one", great, great[1:])
	check(t, x, opened(t, x), "one", great, great[1:])
}

func TestAppendFits(t *testing.T) {
	for n := range 20 {
		x, l := logOf(t, 11+8+n, "one")
		ops := x.Ops()
		checkErrno(t, "Append of one more", l.Append(make([]byte, n+1)), api.ErrFull)
		check(t, x, l, "one")
		checkOps(t, x, ops, 0)
		last := strings.Repeat("z", n)
		checkErrno(t, "Append of what fits", l.Append([]byte(last)), api.OK)
		check(t, x, l, "one", last)
		checkErrno(t, "Append of none to a full one", l.Append(nil), api.ErrFull)
		check(t, x, l, "one", last)
	}
	x := newTape(t, 7)
	l := opened(t, x)
	checkErrno(t, "Append where no record fits", l.Append(nil), api.ErrFull)
	check(t, x, l)
}

func TestSync(t *testing.T) {
	x := newTape(t, 100)
	l := opened(t, x)
	checkErrno(t, "Sync of none", l.Sync(), api.OK)
	checkErrno(t, "Append", l.Append([]byte("a")), api.OK)
	checkErrno(t, "Append", l.Append([]byte("b")), api.OK)
	checkErrno(t, "Sync", l.Sync(), api.OK)
	checkErrno(t, "Sync again", l.Sync(), api.OK)
	check(t, x, l, "a", "b")
	checkOps(t, x, 0, 5)
	x.Crash(0)
	check(t, x, opened(t, x), "a", "b")
}

func TestKeep(t *testing.T) {
	x, l := logOf(t, 100, "a", "b")
	checkErrno(t, "Append", l.Append([]byte("c")), api.OK)
	for _, rows := range [][]string{{"k1", "k2"}, {"k2"}, {""}, {"", "", ""}, {"k2", "k2", "longer than it"}, nil, {"k"}} {
		ops := x.Ops()
		checkErrno(t, "Keep", l.Keep(asBytes(rows)...), api.OK)
		check(t, x, l, rows...)
		checkOps(t, x, ops, 1)
		checkErrno(t, "Append", l.Append([]byte("since")), api.OK)
		check(t, x, l, append(slices.Clone(rows), "since")...)
		x.Crash(0) // what was kept is synced, what came behind it is not
		l = opened(t, x)
		check(t, x, l, rows...)
	}
	checkErrno(t, "Keep of none at all", l.Keep(), api.OK)
	check(t, x, l)
	checkErrno(t, "Keep of a list that is none", l.Keep(nil), api.OK)
	check(t, x, l, "")
}

func TestKeepLong(t *testing.T) {
	great, long := make([]byte, api.MaxRecord), make([]byte, api.MaxRecord+1)
	x, l := logOf(t, 1<<20, "one")
	checkErrno(t, "Append", l.Append([]byte("two")), api.OK)
	ops := x.Ops()
	for _, rows := range [][][]byte{{long}, {long, nil}, {nil, long}, {great, long, great}, {long, long}} {
		checkErrno(t, "Keep of one that is too long", l.Keep(rows...), api.ErrLong)
		check(t, x, l, "one", "two")
		checkOps(t, x, ops, 0)
	}
	if n := x.Crash(0); n != 0 || !bytes.Equal(x.Bytes(), frames(t, "one")) { // a refused Keep syncs nothing
		t.Errorf("%d stayed: %q", n, x.Bytes())
	}
	l = opened(t, x)
	checkErrno(t, "Keep of great ones", l.Keep(great, great), api.OK)
	check(t, x, l, string(great), string(great))
}

func TestKeepFits(t *testing.T) {
	x, l := logOf(t, 30, "one")
	checkErrno(t, "Append", l.Append([]byte("two")), api.OK)
	ops := x.Ops()
	for _, rows := range [][]string{{strings.Repeat("x", 23)}, {"1234567", "12345678"}, {"", "", "1234567"}, {"", "", "", ""}} {
		checkErrno(t, "Keep of one byte more", l.Keep(asBytes(rows)...), api.ErrFull)
		check(t, x, l, "one", "two")
		checkOps(t, x, ops, 0)
	}
	for _, rows := range [][]string{{strings.Repeat("x", 22)}, {"1234567", "1234567"}, {"", "", "123456"}} {
		checkErrno(t, "Keep of what fits", l.Keep(asBytes(rows)...), api.OK)
		check(t, x, l, rows...)
		checkErrno(t, "Append to a full one", l.Append(nil), api.ErrFull)
		check(t, x, l, rows...)
	}
}

// P6: ErrLong comes ahead of ErrDead and ErrFull, ErrDead ahead of ErrFull.
func TestOrderOfErrors(t *testing.T) {
	long, wide := make([]byte, api.MaxRecord+1), make([]byte, 1000)
	x, l := logOf(t, 100, "one")
	x.Stop(1)
	for range 2 { // neither an operation that is refused nor one that is not begun counts for Stop
		checkErrno(t, "Append, long and full", l.Append(long), api.ErrLong)
		checkErrno(t, "Keep, long and full", l.Keep(wide, long), api.ErrLong)
		checkErrno(t, "Append, full", l.Append(wide), api.ErrFull)
		checkErrno(t, "Keep, full", l.Keep(nil, wide), api.ErrFull)
	}
	checkErrno(t, "Sync", l.Sync(), api.ErrDead)
	for range 2 {
		checkErrno(t, "Append, long, dead and full", l.Append(long), api.ErrLong)
		checkErrno(t, "Keep, long, dead and full", l.Keep(wide, long), api.ErrLong)
		checkErrno(t, "Append, dead and full", l.Append(wide), api.ErrDead)
		checkErrno(t, "Keep, dead and full", l.Keep(nil, wide), api.ErrDead)
		checkErrno(t, "Append, dead", l.Append(nil), api.ErrDead)
		checkErrno(t, "Keep, dead", l.Keep(), api.ErrDead)
		checkErrno(t, "Sync, dead", l.Sync(), api.ErrDead)
		check(t, x, l, "one")
	}
}

// P2, P3, P7

// roomy is a list with spare room that must stay as it is.
func roomy(s string) []byte { return append(make([]byte, 0, len(s)+8), s...) }

func TestAppendLeavesWhatIsHandedIn(t *testing.T) {
	x, l := logOf(t, 100)
	in := roomy("abc")
	checkErrno(t, "Append", l.Append(in), api.OK)
	if string(in[:cap(in)]) != "abc"+strings.Repeat("\x00", 8) {
		t.Errorf("what was handed in is %q", in[:cap(in)])
	}
	copy(in[:cap(in)], "zzzzzzzzzzz")
	check(t, x, l, "abc")
	checkErrno(t, "Append", l.Append([]byte("d")), api.OK)
	if string(in[:cap(in)]) != "zzzzzzzzzzz" {
		t.Errorf("what was handed in is %q", in[:cap(in)])
	}
}

func TestKeepLeavesWhatIsHandedIn(t *testing.T) {
	x, l := logOf(t, 100, "old")
	rows := append(make([][]byte, 0, 4), roomy("one"), roomy("two"))
	first := rows[0]
	checkErrno(t, "Keep", l.Keep(rows...), api.OK)
	if !slices.Equal(texts(rows[:4]), []string{"one", "two", "", ""}) || string(first[:cap(first)]) != "one"+strings.Repeat("\x00", 8) {
		t.Errorf("what was handed in is %q, %q", rows[:4], first[:cap(first)])
	}
	first[0] = 'z'
	rows[1] = []byte("other")
	check(t, x, l, "one", "two")
	same := []byte("s")
	checkErrno(t, "Keep of one list twice", l.Keep(same, same), api.OK)
	check(t, x, l, "s", "s")
}

func TestAllIsNew(t *testing.T) {
	x, l := logOf(t, 100, "one", "", "three")
	a, b := l.All(), l.All()
	for _, rows := range [][][]byte{a, b} {
		for i, r := range rows {
			for k := range r[:cap(r)] {
				r[:cap(r)][k] = byte('0' + i)
			}
		}
	}
	if !slices.Equal(texts(a), []string{"000", "", "22222"}) || !slices.Equal(texts(b), texts(a)) {
		t.Errorf("lists of one answer share memory: %q, %q", a, b)
	}
	a[0], b[2] = nil, append(b[2], "more"...)
	check(t, x, l, "one", "", "three")
	kept := l.All()
	checkErrno(t, "Keep", l.Keep([]byte("xxx")), api.OK)
	if !slices.Equal(texts(kept), []string{"one", "", "three"}) {
		t.Errorf("an answer is changed by a later call: %q", kept)
	}
}

// What a log has read may be written to it again.
func TestOwnRecords(t *testing.T) {
	x, l := logOf(t, 1000, "one", "two")
	checkErrno(t, "Append", l.Append(l.All()[1]), api.OK)
	checkErrno(t, "Append", l.Append(x.Bytes()), api.OK)
	inner := string(frames(t, "one", "two", "two"))
	check(t, x, l, "one", "two", "two", inner)
	checkErrno(t, "Keep", l.Keep(l.All()[2:]...), api.OK)
	check(t, x, l, "two", inner)
}

func TestLogsAreApart(t *testing.T) {
	x, a := logOf(t, 100, "a")
	y, b := logOf(t, 100, "b")
	checkErrno(t, "Append", a.Append([]byte("c")), api.OK)
	powerOff(t, x)
	checkErrno(t, "Keep", b.Keep([]byte("d"), []byte("e")), api.OK)
	check(t, x, a, "a", "c")
	check(t, y, b, "d", "e")
}

// What stands behind the whole records is told apart within, and says where it begins.
func TestTail(t *testing.T) {
	whole := frames(t, "one")
	for _, c := range []struct {
		behind []byte
		is     error
		text   string
	}{
		{frames(t, "two")[:9], errPart, "byte 11: a part of a record"},
		{[]byte{1, 0, 0, 0}, api.ErrLong, "byte 11: long"},
		{[]byte{0, 0, 0, 0, 0, 0, 0, 1}, api.ErrSum, "byte 11: sum"},
	} {
		size, err := wholeSize(slices.Concat(whole, c.behind))
		if size != 11 || !errors.Is(err, c.is) || err.Error() != c.text {
			t.Errorf("%q: %d, %v", c.behind, size, err)
		}
		for _, other := range []error{errPart, api.ErrLong, api.ErrSum} {
			if other != c.is && errors.Is(err, other) {
				t.Errorf("%q: %v is %v", c.behind, err, other)
			}
		}
	}
	if size, err := wholeSize(whole); size != 11 || err != nil {
		t.Errorf("%d, %v", size, err)
	}
}
