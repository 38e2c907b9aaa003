package wal

import (
	"math/rand"
	"slices"
	"strings"
	"testing"

	"synodal/api"
	"synodal/tape"
)

// A ledger is what T3 says of a log, worked out from its answers alone: the records that last, and those that were written since, the one that the power went at among them.
type ledger struct{ lasting, since []string }

// all are the records that the log itself has, as long as none was cut off.
func (g *ledger) all() []string { return slices.Concat(g.lasting, g.since) }

// step is one call of a script.
type step struct {
	call byte // 'a': Append of the first row; 's': Sync; 'k': Keep
	rows []string
}

// do makes one call, and enters it by its answer. It tells whether the power went within it.
func (g *ledger) do(x *tape.Tape, l *Log, s step) bool {
	dead := x.Dead()
	e := api.OK
	switch s.call {
	case 'a':
		e = l.Append([]byte(s.rows[0]))
	case 's':
		e = l.Sync()
	case 'k':
		e = l.Keep(asBytes(s.rows)...)
	}
	went := e == api.ErrDead && !dead
	switch {
	case s.call == 'a' && (e == api.OK || went):
		g.since = append(g.since, s.rows[0])
	case s.call == 's' && e == api.OK:
		g.lasting, g.since = g.all(), nil
	case s.call == 'k' && e == api.OK:
		g.lasting, g.since = s.rows, nil
	}
	return went
}

// front are the records that last, and those of the others that so many bytes have whole.
func (g *ledger) front(stayed int) []string {
	out := slices.Clone(g.lasting)
	for _, r := range g.since {
		stayed -= len(r) + 8
		if stayed < 0 {
			break
		}
		out = append(out, r)
	}
	return out
}

// scripts have each call behind each other one, and records of the log's own form.
func scripts(t *testing.T) [][]step {
	t.Helper()
	one, two := step{'a', []string{"one"}}, step{'a', []string{"22"}}
	none, sync := step{'a', []string{""}}, step{'s', nil}
	inner := step{'a', []string{string(frames(t, "in", ""))}}
	part := step{'a', []string{string(frames(t, "part")[:9])}}
	head := step{'a', []string{"\x00\x00\x00\x02"}}
	keep := step{'k', []string{"k", string(frames(t, "kept"))}}
	empty, wide := step{'k', nil}, step{'k', []string{strings.Repeat("w", 100)}}
	great := step{'a', []string{strings.Repeat("g", 100)}}
	return [][]step{
		{one, sync, two},
		{one, two, none, sync, none, one, none},
		{none, none, none},
		{inner, sync, inner, part, sync, head, inner},
		{part, head, inner, one},
		{one, keep, two, keep, inner},
		{one, sync, two, keep, empty, one, sync, sync, one},
		{empty, one, empty, keep, empty},
		{one, wide, great, sync, great, wide, two},
		{keep, part, part, keep, head},
	}
}

// run makes the calls of a script on a new log until the power goes, at the operation that stop says (0: it does not).
func run(t *testing.T, script []step, stop int) (*tape.Tape, *ledger) {
	t.Helper()
	x := newTape(t, 100)
	l := opened(t, x)
	x.Stop(stop)
	g := &ledger{}
	for i, s := range script {
		had := g.all()
		if g.do(x, l, s) {
			checkLog(t, l, had...) // what answers an error is no record
			for _, s := range script[i:] {
				g.do(x, l, s)
			}
			checkLog(t, l, had...)
			return x, g
		}
		check(t, x, l, g.all()...)
	}
	return x, g
}

// unsynced is how many bytes the records take that a crash may take away.
func (g *ledger) unsynced() int {
	n := 0
	for _, r := range g.since {
		n += len(r) + 8
	}
	return n
}

// P402, P403: the power goes at each operation, each number of bytes stays, and the log that is opened then has whole records alone, and goes on behind them.
func TestEveryCrash(t *testing.T) {
	for _, script := range scripts(t) {
		for stop := range len(script) + 1 {
			_, g := run(t, script, stop)
			for pick := range g.unsynced() + 1 {
				x, g := run(t, script, stop)
				stayed := x.Crash(pick)
				if stayed != pick {
					t.Fatalf("%q, Stop(%d): %d of %d stayed", script, stop, stayed, pick)
				}
				want := g.front(stayed)
				l := openedAtLast(t, x, len(frames(t, want...)))
				check(t, x, l, want...)
				checkGoesOn(t, x, l, want)
			}
		}
	}
}

// openedAtLast opens a tape whose power goes once while it is opened, if there is a part to take away.
func openedAtLast(t *testing.T, x *tape.Tape, whole int) *Log {
	t.Helper()
	if len(x.Bytes()) > whole {
		x.Stop(1)
		checkRefused(t, x, api.ErrDead)
		x.Crash(1)
	}
	return opened(t, x)
}

// checkGoesOn writes to a log that was opened anew, and opens it once more.
func checkGoesOn(t *testing.T, x *tape.Tape, l *Log, had []string) {
	t.Helper()
	checkErrno(t, "Append", l.Append(nil), api.OK)
	checkErrno(t, "Sync", l.Sync(), api.OK)
	want := append(slices.Clone(had), "")
	check(t, x, l, want...)
	if n := x.Crash(3); n != 0 {
		t.Errorf("%d were not synced", n)
	}
	l = opened(t, x)
	check(t, x, l, want...)
	checkErrno(t, "Keep", l.Keep([]byte("anew")), api.OK)
	x.Crash(1)
	check(t, x, opened(t, x), "anew")
}

func TestExample(t *testing.T) {
	x, l := logOf(t, 100, "a")
	checkErrno(t, "Append", l.Append([]byte("b")), api.OK)
	x.Crash(0)
	check(t, x, opened(t, x), "a")
}

// An Append that the power goes at may last all the same: it was written, and a crash may leave all of it.
func TestAppendCutOff(t *testing.T) {
	x, l := logOf(t, 100, "a")
	x.Stop(1)
	checkErrno(t, "Append", l.Append([]byte("b")), api.ErrDead)
	checkLog(t, l, "a")
	x.Crash(9)
	check(t, x, opened(t, x), "a", "b")
}

// A Keep that is cut off did nothing, whatever it was to keep.
func TestKeepCutOff(t *testing.T) {
	for pick, want := range map[int][]string{0: {"a"}, 8: {"a"}, 9: {"a", "b"}} {
		for _, rows := range [][]string{nil, {"c"}, {"", "c", "d"}, {"a", "b"}} {
			x, l := logOf(t, 100, "a")
			checkErrno(t, "Append", l.Append([]byte("b")), api.OK)
			x.Stop(1)
			checkErrno(t, "Keep", l.Keep(asBytes(rows)...), api.ErrDead)
			check(t, x, l, "a", "b")
			x.Crash(pick)
			check(t, x, opened(t, x), want...)
		}
	}
}

// P403: logs within logs, and each of their fronts.
func TestLogWithinLog(t *testing.T) {
	record := ""
	var want []string
	for range 5 {
		x, l := logOf(t, 1<<16, want...)
		checkErrno(t, "Append", l.Append([]byte(record)), api.OK)
		want = append(want, record)
		check(t, x, l, want...)
		record = string(x.Bytes())
	}
	b := frames(t, want...)
	for n := range b {
		front := tapeOf(t, 1<<16, b[:n])
		g := ledger{since: want}
		check(t, front, opened(t, front), g.front(n)...)
	}
}

// A row of calls, crashes and openings one behind the other on one tape, the same whenever it is made (P3).
func TestManyLives(t *testing.T) {
	r := rand.New(rand.NewSource(11))
	x := newTape(t, 200)
	var g ledger
	for range 3000 {
		l := opened(t, x)
		check(t, x, l, g.all()...)
		x.Stop(r.Intn(8))
		for range r.Intn(10) {
			g.do(x, l, anyStep(t, r))
		}
		g.lasting, g.since = g.front(x.Crash(r.Intn(1000))), nil
	}
}

// anyStep is a call with any records, also such as are too long for the tape, or are a log's own bytes.
func anyStep(t *testing.T, r *rand.Rand) step {
	t.Helper()
	var rows []string
	for range 1 + r.Intn(3) {
		row := strings.Repeat(string(rune('a'+r.Intn(26))), r.Intn(30))
		if r.Intn(3) == 0 {
			b := frames(t, row, row)
			row = string(b[:r.Intn(len(b)+1)])
		}
		rows = append(rows, row)
	}
	return step{"aaask"[r.Intn(5)], rows}
}

// A log whose tape crashed under it is to be opened anew; till then it tells no more than there is (P1).
func TestCrashUnderLog(t *testing.T) {
	for pick := range 12 {
		x, l := logOf(t, 100, "one")
		checkErrno(t, "Append", l.Append([]byte("two")), api.OK)
		g := ledger{lasting: []string{"one"}, since: []string{"two"}}
		want := g.front(x.Crash(pick))
		if got := texts(l.All()); !slices.Equal(got, want) {
			t.Errorf("Crash(%d): %q, not %q", pick, got, want)
		}
	}
}
