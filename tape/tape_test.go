package tape

import (
	"bytes"
	"errors"
	"math"
	"slices"
	"strings"
	"testing"

	"synodal/api"
)

// made is an empty tape for so many bytes.
func made(t *testing.T, room int) *Tape {
	t.Helper()
	x, e := New(room)
	if e != api.OK || x == nil {
		t.Fatalf("New(%d): %v, %v", room, x, e)
	}
	return x
}

// written is a tape on which some bytes are synced and others are not.
func written(t *testing.T, room int, synced, since string) *Tape {
	t.Helper()
	x := made(t, room)
	checkErrno(t, "Append", x.Append([]byte(synced)), api.OK)
	checkErrno(t, "Sync", x.Sync(), api.OK)
	checkErrno(t, "Append", x.Append([]byte(since)), api.OK)
	return x
}

func checkErrno(t *testing.T, what string, got, want api.Errno) {
	t.Helper()
	if got != want {
		t.Errorf("%s: %v, not %v", what, got, want)
	}
}

// check holds all that a tape tells of itself against what it must be.
func check(t *testing.T, x *Tape, want string, ops int, dead bool) {
	t.Helper()
	if got := string(x.Bytes()); got != want {
		t.Errorf("Bytes: %q, not %q", got, want)
	}
	if got := x.Ops(); got != ops {
		t.Errorf("Ops: %d, not %d", got, ops)
	}
	if got := x.Dead(); got != dead {
		t.Errorf("Dead: %v, not %v", got, dead)
	}
}

// checkCrash crashes the tape, and asks what stayed.
func checkCrash(t *testing.T, x *Tape, pick, stay int, want string) {
	t.Helper()
	ops := x.Ops()
	if got := x.Crash(pick); got != stay {
		t.Errorf("Crash(%d): %d, not %d", pick, got, stay)
	}
	check(t, x, want, ops, false)
}

// P301

func TestNewRoom(t *testing.T) {
	for _, room := range []int{0, -1, -1 << 30, math.MinInt, 1<<30 + 1, 1 << 31, 1 << 32, math.MaxInt} {
		if x, e := New(room); x != nil || e != api.ErrArg {
			t.Errorf("New(%d): %v, %v", room, x, e)
		}
	}
	for _, room := range []int{1, 2, 400000, 1<<30 - 1, 1 << 30} {
		check(t, made(t, room), "", 0, false)
	}
}

// A tape has room for so many bytes, but takes no more than stand there.
func TestNewTakesNoRoomAhead(t *testing.T) {
	if n := cap(made(t, 1<<30).bytes); n != 0 {
		t.Errorf("%d bytes for an empty tape", n)
	}
}

func TestAppend(t *testing.T) {
	x := made(t, 100)
	checkErrno(t, "Append", x.Append([]byte("abc")), api.OK)
	check(t, x, "abc", 1, false)
	checkErrno(t, "Append", x.Append([]byte{0, 255}), api.OK)
	check(t, x, "abc\x00\xff", 2, false)
	checkErrno(t, "Append of none", x.Append(nil), api.OK)
	checkErrno(t, "Append of an empty list", x.Append([]byte{}), api.OK)
	check(t, x, "abc\x00\xff", 4, false)
}

func TestAppendFits(t *testing.T) {
	for _, room := range []int{1, 2, 7, 300} {
		for first := range room + 1 {
			x := made(t, room)
			a, b := strings.Repeat("a", first), strings.Repeat("b", room-first)
			checkErrno(t, "Append", x.Append([]byte(a)), api.OK)
			checkErrno(t, "Append of one more", x.Append([]byte(b+"c")), api.ErrFull)
			check(t, x, a, 1, false)
			checkErrno(t, "Append of what fits", x.Append([]byte(b)), api.OK)
			check(t, x, a+b, 2, false)
			checkErrno(t, "Append to a full one", x.Append([]byte("c")), api.ErrFull)
			checkErrno(t, "Append of none to a full one", x.Append(nil), api.OK)
			check(t, x, a+b, 3, false)
		}
	}
}

func TestSync(t *testing.T) {
	x := made(t, 100)
	checkErrno(t, "Sync of an empty one", x.Sync(), api.OK)
	check(t, x, "", 1, false)
	checkErrno(t, "Append", x.Append([]byte("ab")), api.OK)
	checkErrno(t, "Append", x.Append([]byte("c")), api.OK)
	checkErrno(t, "Sync", x.Sync(), api.OK)
	checkErrno(t, "Sync again", x.Sync(), api.OK)
	check(t, x, "abc", 5, false)
	checkCrash(t, x, 1, 0, "abc")
}

func TestReplace(t *testing.T) {
	x := written(t, 100, "ab", "cd")
	checkErrno(t, "Replace", x.Replace([]byte("xyz")), api.OK)
	check(t, x, "xyz", 4, false)
	checkErrno(t, "Append", x.Append([]byte("w")), api.OK)
	check(t, x, "xyzw", 5, false)
	checkCrash(t, x, 0, 0, "xyz")
	checkErrno(t, "Replace by more", x.Replace([]byte("longer than it")), api.OK)
	checkCrash(t, x, 3, 0, "longer than it")
	checkErrno(t, "Replace by none", x.Replace(nil), api.OK)
	check(t, x, "", 7, false)
	checkCrash(t, x, 1, 0, "")
}

func TestReplaceFits(t *testing.T) {
	x := written(t, 6, "ab", "cde")
	checkErrno(t, "Replace by one more", x.Replace([]byte("1234567")), api.ErrFull)
	check(t, x, "abcde", 3, false)
	checkErrno(t, "Replace by what fits", x.Replace([]byte("123456")), api.OK)
	check(t, x, "123456", 4, false)
	checkErrno(t, "Append to a full one", x.Append([]byte("7")), api.ErrFull)
	checkErrno(t, "Replace of a full one by one more", x.Replace([]byte("abcdefg")), api.ErrFull)
	check(t, x, "123456", 4, false)
	checkErrno(t, "Replace", x.Replace([]byte("1")), api.OK)
	checkErrno(t, "Append of what fits then", x.Append([]byte("23456")), api.OK)
	check(t, x, "123456", 6, false)
}

// A refused operation syncs nothing (P5).
func TestRefusedLeavesUnsynced(t *testing.T) {
	for pick := range 4 {
		x := written(t, 5, "ab", "cde")
		checkErrno(t, "Append", x.Append([]byte("f")), api.ErrFull)
		checkErrno(t, "Replace", x.Replace([]byte("123456")), api.ErrFull)
		checkCrash(t, x, pick, pick, "abcde"[:2+pick])
	}
}

func TestOps(t *testing.T) {
	x := made(t, 3)
	for n := range 50 {
		checkErrno(t, "Append", x.Append([]byte("abc")), api.OK)
		checkErrno(t, "Append", x.Append([]byte("d")), api.ErrFull)
		checkErrno(t, "Sync", x.Sync(), api.OK)
		checkErrno(t, "Replace", x.Replace([]byte("abcd")), api.ErrFull)
		checkErrno(t, "Replace", x.Replace(nil), api.OK)
		x.Stop(0)
		x.Bytes()
		x.Dead()
		x.Crash(n)
		if got := x.Ops(); got != 3*n+3 {
			t.Fatalf("Ops: %d, not %d", got, 3*n+3)
		}
	}
}

// P302

func TestPowerGoesAtAppend(t *testing.T) {
	for pick, want := range []string{"abcd", "abcde", "abcdef", "ab", "abc"} {
		x := written(t, 6, "ab", "cd")
		x.Stop(1)
		checkErrno(t, "Append", x.Append([]byte("ef")), api.ErrDead)
		check(t, x, "abcdef", 3, true)
		checkCrash(t, x, pick+2, len(want)-2, want)
	}
	x := made(t, 1)
	x.Stop(1)
	checkErrno(t, "Append of none", x.Append(nil), api.ErrDead)
	check(t, x, "", 0, true)
}

func TestPowerGoesAtSync(t *testing.T) {
	for pick := range 3 {
		x := written(t, 6, "ab", "cd")
		x.Stop(1)
		checkErrno(t, "Sync", x.Sync(), api.ErrDead)
		check(t, x, "abcd", 3, true)
		checkCrash(t, x, pick, pick, "abcd"[:2+pick])
	}
}

func TestPowerGoesAtReplace(t *testing.T) {
	for pick := range 3 {
		for _, b := range []string{"", "x", "123456"} {
			x := written(t, 6, "ab", "cd")
			x.Stop(1)
			checkErrno(t, "Replace", x.Replace([]byte(b)), api.ErrDead)
			check(t, x, "abcd", 3, true)
			checkCrash(t, x, pick, pick, "abcd"[:2+pick])
		}
	}
}

// operation does the n-th of a row in which all three kinds take turns.
func operation(x *Tape, n int) api.Errno {
	switch n % 3 {
	case 0:
		return x.Append([]byte("a"))
	case 1:
		return x.Sync()
	}
	return x.Replace([]byte("b"))
}

func TestStopCounts(t *testing.T) {
	for at := 1; at <= 20; at++ {
		x := made(t, 2)
		x.Stop(at)
		for n := 1; n < at; n++ {
			checkErrno(t, "one ahead of it", operation(x, n), api.OK)
			if x.Dead() {
				t.Fatalf("Stop(%d): gone at %d", at, n)
			}
		}
		checkErrno(t, "the one that it goes at", operation(x, at), api.ErrDead)
		if !x.Dead() || x.Ops() != at-1 {
			t.Errorf("Stop(%d): %v, %d", at, x.Dead(), x.Ops())
		}
		checkErrno(t, "one behind it", operation(x, at+1), api.ErrDead)
	}
}

func TestStopCountsFromNowOn(t *testing.T) {
	x := written(t, 100, "ab", "cd")
	x.Stop(2)
	checkErrno(t, "Append", x.Append([]byte("e")), api.OK)
	checkErrno(t, "Sync", x.Sync(), api.ErrDead)
	check(t, x, "abcde", 4, true)
}

func TestRefusedCountsForNothing(t *testing.T) {
	x := written(t, 5, "ab", "c")
	x.Stop(2)
	for range 5 {
		checkErrno(t, "Append", x.Append([]byte("def")), api.ErrFull)
		checkErrno(t, "Replace", x.Replace([]byte("123456")), api.ErrFull)
	}
	check(t, x, "abc", 3, false)
	checkErrno(t, "Append", x.Append([]byte("d")), api.OK)
	for range 5 {
		checkErrno(t, "Append", x.Append([]byte("ef")), api.ErrFull)
		checkErrno(t, "Replace", x.Replace([]byte("123456")), api.ErrFull)
	}
	check(t, x, "abcd", 4, false)
	checkErrno(t, "Append", x.Append([]byte("e")), api.ErrDead)
	check(t, x, "abcde", 4, true)
}

func TestStopBelowOne(t *testing.T) {
	for _, n := range []int{0, -1, -7, math.MinInt} {
		x := made(t, 10)
		x.Stop(n)
		x.Stop(1)
		x.Stop(n)
		for i := range 9 {
			checkErrno(t, "an operation", operation(x, i), api.OK)
		}
	}
}

func TestStopAnew(t *testing.T) {
	x := made(t, 10)
	x.Stop(1)
	x.Stop(3)
	checkErrno(t, "Sync", x.Sync(), api.OK)
	checkErrno(t, "Sync", x.Sync(), api.OK)
	x.Stop(2)
	checkErrno(t, "Sync", x.Sync(), api.OK)
	checkErrno(t, "Sync", x.Sync(), api.ErrDead)
	check(t, x, "", 3, true)
}

func TestStopAtGreatOne(t *testing.T) {
	x := made(t, 10)
	x.Stop(math.MaxInt)
	for i := range 99 {
		checkErrno(t, "an operation", operation(x, i), api.OK)
	}
}

// Both errors apply where the power is gone and there are too many bytes: the first one is told.
func TestEveryCallWithoutPower(t *testing.T) {
	x := written(t, 5, "ab", "c")
	x.Stop(1)
	checkErrno(t, "Append", x.Append([]byte("d")), api.ErrDead)
	for _, n := range []int{0, 1, -1, 3} {
		x.Stop(n)
		for _, b := range []string{"", "e", "ef", "123456"} {
			checkErrno(t, "Append", x.Append([]byte(b)), api.ErrDead)
			checkErrno(t, "Replace", x.Replace([]byte(b)), api.ErrDead)
		}
		checkErrno(t, "Sync", x.Sync(), api.ErrDead)
		check(t, x, "abcd", 3, true)
	}
	checkCrash(t, x, 1, 1, "abc")
}

// P303

func TestCrashPicks(t *testing.T) {
	const all = "abcdefg"
	for synced := range len(all) + 1 {
		count := len(all) - synced + 1
		for pick := -3 * count; pick <= 3*count; pick++ {
			stay := (pick + 3*count) % count
			x := written(t, 100, all[:synced], all[synced:])
			checkCrash(t, x, pick, stay, all[:synced+stay])
		}
	}
}

func TestCrashGreatPicks(t *testing.T) {
	for pick, stay := range map[int]int{
		math.MaxInt: 1, math.MaxInt - 1: 0, math.MinInt: 1, math.MinInt + 1: 2, 3000000000: 0, -3000000001: 2,
	} {
		x := written(t, 100, "ab", "cd")
		checkCrash(t, x, pick, stay, "abcd"[:2+stay])
	}
}

func TestCrashNothingSince(t *testing.T) {
	for _, pick := range []int{0, 1, 2, -1, math.MaxInt, math.MinInt} {
		checkCrash(t, made(t, 5), pick, 0, "")
		checkCrash(t, written(t, 5, "ab", ""), pick, 0, "ab")
	}
}

// What stays is synced: another crash takes nothing of it.
func TestCrashAgain(t *testing.T) {
	x := written(t, 100, "ab", "cdef")
	checkCrash(t, x, 3, 3, "abcde")
	for _, pick := range []int{0, 1, 3, -1} {
		checkCrash(t, x, pick, 0, "abcde")
	}
}

func TestCrashBringsPower(t *testing.T) {
	x := written(t, 100, "ab", "cd")
	x.Stop(1)
	checkErrno(t, "Sync", x.Sync(), api.ErrDead)
	x.Stop(2)
	checkCrash(t, x, 1, 1, "abc")
	for i := range 9 {
		checkErrno(t, "an operation", operation(x, i), api.OK)
	}
	x.Stop(2)
	checkErrno(t, "Sync", x.Sync(), api.OK)
	x.Crash(0)
	for i := range 9 {
		checkErrno(t, "an operation", operation(x, i), api.OK)
	}
}

func TestCrashGivesRoomBack(t *testing.T) {
	x := written(t, 5, "ab", "cde")
	checkCrash(t, x, 1, 1, "abc")
	checkErrno(t, "Append of one more", x.Append([]byte("123")), api.ErrFull)
	checkErrno(t, "Append of what fits", x.Append([]byte("12")), api.OK)
	check(t, x, "abc12", 4, false)
	checkErrno(t, "Sync", x.Sync(), api.OK)
	x.Stop(1)
	checkErrno(t, "Replace", x.Replace([]byte("x")), api.ErrDead)
	checkCrash(t, x, 7, 0, "abc12")
}

func TestExample(t *testing.T) {
	x := made(t, 100)
	checkErrno(t, "Append", x.Append([]byte("abc")), api.OK)
	checkCrash(t, x, 2, 2, "ab")
}

// P304

// row does the operations of a text: a letter is appended, '.' syncs, '!' replaces all by the text "xy". It answers what was synced last, and what was written since, by the answers alone.
func row(x *Tape, text string) (synced, since string) {
	for i := range len(text) {
		switch text[i] {
		case '.':
			if x.Sync() == api.OK {
				synced, since = synced+since, ""
			}
		case '!':
			if x.Replace([]byte("xy")) == api.OK {
				synced, since = "xy", ""
			}
		default:
			dead := x.Dead()
			if e := x.Append([]byte{text[i]}); e == api.OK || e == api.ErrDead && !dead {
				since += text[i : i+1]
			}
		}
	}
	return synced, since
}

// What was synced stays, and a front of what was written since, wherever the power goes and whatever the pick is.
func TestCrashKeepsFront(t *testing.T) {
	for _, text := range []string{"abc", "ab.cd", "ab.cd!ef", "!a.!b", "a.b.c.d", "abcdefgh!.ijk", "..!!a", "abcdef.gh"} {
		for stop := range len(text) + 2 {
			for pick := range 9 {
				x := made(t, 7)
				x.Stop(stop)
				synced, since := row(x, text)
				if got := string(x.Bytes()); got != synced+since {
					t.Fatalf("%s, Stop(%d): %q, not %q and %q", text, stop, got, synced, since)
				}
				stay := pick % (len(since) + 1)
				checkCrash(t, x, pick, stay, synced+since[:stay])
				checkErrno(t, "Sync behind it", x.Sync(), api.OK)
				if more := "123456789"[:7-len(x.Bytes())]; x.Append([]byte(more)) != api.OK || len(x.Bytes()) != 7 {
					t.Fatalf("%s, Stop(%d): it does not go on: %q", text, stop, x.Bytes())
				}
				checkCrash(t, x, 0, 0, synced+since[:stay])
			}
		}
	}
}

// P2, P3, P7

// roomy is a list with spare room that must stay as it is.
func roomy(s string) []byte { return append(make([]byte, 0, len(s)+8), s...) }

func TestWhatIsHandedIn(t *testing.T) {
	x := made(t, 100)
	for _, call := range []func([]byte) api.Errno{x.Append, x.Replace} {
		in := roomy("abc")
		checkErrno(t, "the call", call(in), api.OK)
		in[0] = 'z'
		copy(in[3:8], "12345")
		check(t, x, "abc", x.Ops(), false)
		checkErrno(t, "Append", x.Append([]byte("def")), api.OK)
		if string(in[:8]) != "zbc12345" {
			t.Errorf("what was handed in is %q", in[:8])
		}
		checkErrno(t, "Replace", x.Replace(nil), api.OK)
	}
	x.Stop(1)
	in := roomy("abc")
	checkErrno(t, "Append", x.Append(in), api.ErrDead)
	in[0] = 'z'
	check(t, x, "abc", x.Ops(), true)
}

func TestBytesIsNew(t *testing.T) {
	x := written(t, 100, "ab", "cd")
	a, b := x.Bytes(), x.Bytes()
	for _, l := range [][]byte{a, b} {
		for i := range l[:cap(l)] {
			l[:cap(l)][i] = '-'
		}
	}
	check(t, x, "abcd", 3, false)
	checkErrno(t, "Append", x.Append([]byte("ef")), api.OK)
	a[0] = '+'
	if string(b) != "----" {
		t.Errorf("two answers share memory: %q", b)
	}
	check(t, x, "abcdef", 4, false)
	kept := x.Bytes()
	checkCrash(t, x, 1, 1, "abc")
	checkErrno(t, "Append", x.Append([]byte("123")), api.OK)
	if string(kept) != "abcdef" {
		t.Errorf("an answer is changed by a later call: %q", kept)
	}
}

// Bytes of one tape may be appended to it, and put in its own place.
func TestOwnBytes(t *testing.T) {
	x := made(t, 100)
	checkErrno(t, "Append", x.Append([]byte("ab")), api.OK)
	checkErrno(t, "Append", x.Append(x.Bytes()), api.OK)
	checkErrno(t, "Replace", x.Replace(x.Bytes()[1:]), api.OK)
	check(t, x, "bab", 3, false)
}

func TestTapesAreApart(t *testing.T) {
	x, y := made(t, 5), made(t, 5)
	x.Stop(1)
	checkErrno(t, "Append", y.Append([]byte("ab")), api.OK)
	checkErrno(t, "Append", x.Append([]byte("c")), api.ErrDead)
	check(t, x, "c", 0, true)
	check(t, y, "ab", 1, false)
}

func TestGreatTape(t *testing.T) {
	x := made(t, 1<<30)
	part := bytes.Repeat([]byte("0123456789abcdef"), 1<<12)
	var want []byte
	for range 20 {
		checkErrno(t, "Append", x.Append(part), api.OK)
		want = append(want, part...)
	}
	if !slices.Equal(x.Bytes(), want) {
		t.Error("a great tape has other bytes")
	}
}

// What happened within is told apart, though the face tells one number of it.
func TestMishap(t *testing.T) {
	x := made(t, 5)
	x.Stop(1)
	goes, gone := x.begin(0), x.begin(0)
	if !errors.Is(goes, errGoes) || !errors.Is(goes, api.ErrDead) || errors.Is(goes, api.ErrFull) {
		t.Errorf("the power goes: %v", goes)
	}
	if errors.Is(gone, errGoes) || !errors.Is(gone, api.ErrDead) {
		t.Errorf("the power is gone: %v", gone)
	}
	if got := goes.Error(); got != "the power goes: dead" {
		t.Errorf("its text is %q", got)
	}
}
