package cells

import (
	"bytes"
	"errors"
	"math"
	"slices"
	"strings"
	"testing"

	"synodal/api"
	"synodal/tape"
	"synodal/wire"
)

// state is what the document says of cells, worked out from the Puts alone: the bytes of each by N.
type state [api.MaxCells]string

// with is what a Put makes of the cells.
func (s state) with(l ...api.Cell) state {
	for _, x := range l {
		s[x.N] = string(x.Data)
	}
	return s
}

func cell(n int, s string) api.Cell { return api.Cell{N: n, Data: []byte(s)} }

// great is a cell of so many bytes.
func great(n, size int) api.Cell { return cell(n, strings.Repeat("g", size)) }

func newTape(t *testing.T, room int) *tape.Tape {
	t.Helper()
	x, e := tape.New(room)
	if e != api.OK {
		t.Fatalf("New(%d): %v", room, e)
	}
	return x
}

func opened(t *testing.T, x *tape.Tape) *Cells {
	t.Helper()
	c, e := Open(x)
	if e != api.OK || c == nil {
		t.Fatalf("Open: %v, %v", c, e)
	}
	return c
}

// cellsOf are cells on a tape of their own that one Put was made on.
func cellsOf(t *testing.T, room int, l ...api.Cell) (*tape.Tape, *Cells) {
	t.Helper()
	x := newTape(t, room)
	c := opened(t, x)
	checkErrno(t, "Put", c.Put(l...), api.OK)
	return x, c
}

// powerOff takes a tape's power and leaves its bytes.
func powerOff(t *testing.T, x *tape.Tape) {
	t.Helper()
	x.Stop(1)
	checkErrno(t, "Sync", x.Sync(), api.ErrDead)
}

func checkErrno(t *testing.T, what string, got, want api.Errno) {
	t.Helper()
	if got != want {
		t.Errorf("%s: %v, not %v", what, got, want)
	}
}

// stateOf is what cells tell, by All; it says of All and Get that they agree, and that All's cells are in order and have bytes.
func stateOf(t *testing.T, c *Cells) state {
	t.Helper()
	var s state
	last := -1
	for _, x := range c.All() {
		if x.N <= last || x.N >= api.MaxCells || len(x.Data) == 0 {
			t.Fatalf("All: cell %d with %d bytes behind cell %d", x.N, len(x.Data), last)
		}
		last = x.N
		s[x.N] = string(x.Data)
	}
	for n := range s {
		if got := string(c.Get(n)); got != s[n] {
			t.Errorf("Get(%d): %.100q, but All: %.100q", n, got, s[n])
		}
	}
	return s
}

// check holds what cells tell against what they must be, and their size against the tape.
func check(t *testing.T, x *tape.Tape, c *Cells, want state) {
	t.Helper()
	if got := stateOf(t, c); got != want {
		t.Errorf("%.500q, not %.500q", got, want)
	}
	if got, n := c.Size(), len(x.Bytes()); got != n {
		t.Errorf("Size: %d, but the tape has %d", got, n)
	}
}

// checkLasts says that the cells are these, and are still these behind a crash that keeps nothing that was not synced.
func checkLasts(t *testing.T, x *tape.Tape, c *Cells, want state) {
	t.Helper()
	check(t, x, c, want)
	x.Crash(0)
	check(t, x, opened(t, x), want)
}

// checkRefused says that a Put answers that error and leaves cells and tape as they were.
func checkRefused(t *testing.T, x *tape.Tape, c *Cells, want api.Errno, l ...api.Cell) {
	t.Helper()
	had, b, ops := stateOf(t, c), x.Bytes(), x.Ops()
	checkErrno(t, "Put", c.Put(l...), want)
	check(t, x, c, had)
	if !bytes.Equal(x.Bytes(), b) || x.Ops() != ops {
		t.Errorf("%d bytes and %d operations, not %d and %d", len(x.Bytes()), x.Ops(), len(b), ops)
	}
}

func TestOpenNew(t *testing.T) {
	x := newTape(t, 1)
	c := opened(t, x)
	check(t, x, c, state{})
	if len(c.All()) != 0 || c.Size() != 0 || x.Ops() != 0 {
		t.Errorf("%v, %d bytes, %d operations", c.All(), c.Size(), x.Ops())
	}
}

func TestOpenUsed(t *testing.T) {
	x, c := cellsOf(t, 400000, cell(2, "two"), cell(0, "zero"))
	want := state{0: "zero", 2: "two"}
	for k, l := range [][]api.Cell{{cell(7, "seven")}, {cell(0, "nil"), cell(3, "three")}, {cell(2, "")}, {great(1, maxBytes)}} {
		checkErrno(t, "Put", c.Put(l...), api.OK)
		want = want.with(l...)
		check(t, x, c, want)
		size := c.Size()
		c = opened(t, x) // it goes on where the last one was
		check(t, x, c, want)
		if c.Size() != size {
			t.Errorf("%d: %d bytes, not %d", k, c.Size(), size)
		}
	}
}

func checkNotOpened(t *testing.T, x *tape.Tape, want api.Errno) {
	t.Helper()
	b, ops := x.Bytes(), x.Ops()
	if c, e := Open(x); e != want || c != nil {
		t.Errorf("Open: %v, %v, not %v", c, e, want)
	}
	if !bytes.Equal(x.Bytes(), b) || x.Ops() != ops {
		t.Error("Open changed the tape")
	}
}

func TestOpenWithoutPower(t *testing.T) {
	for _, l := range [][]api.Cell{nil, {cell(1, "one"), cell(2, "two")}} {
		x, _ := cellsOf(t, 100, l...)
		powerOff(t, x)
		checkNotOpened(t, x, api.ErrDead)
		x.Crash(0)
		check(t, x, opened(t, x), state{}.with(l...))
	}
}

// A part of a record is all that a power that goes may leave too much; to take it away is an operation, which the power may go at.
func TestOpenPowerGoes(t *testing.T) {
	x, c := cellsOf(t, 100, cell(1, "one"), cell(2, "two"))
	size := c.Size()
	checkErrno(t, "Append", x.Append([]byte("\x00\x00\x00\x09part")), api.OK)
	x.Stop(1)
	checkNotOpened(t, x, api.ErrDead)
	checkNotOpened(t, x, api.ErrDead)
	x.Crash(8)
	c = opened(t, x)
	check(t, x, c, state{1: "one", 2: "two"})
	if c.Size() != size {
		t.Errorf("%d bytes, not %d", c.Size(), size)
	}
}

func TestOpenSum(t *testing.T) {
	x, _ := cellsOf(t, 100, cell(1, "one"), cell(2, "two"))
	b := x.Bytes()
	b[len(b)-1] ^= 1
	checkErrno(t, "Replace", x.Replace(b), api.OK)
	checkNotOpened(t, x, api.ErrSum)
}

func TestOpenLong(t *testing.T) {
	x, _ := cellsOf(t, 100, cell(1, "one"))
	checkErrno(t, "Append", x.Append([]byte("\x00\x01\x00\x01rest")), api.OK)
	checkNotOpened(t, x, api.ErrLong)
}

// Records that no cells wrote say no cell, and do no harm (P1).
func TestOpenOtherRecords(t *testing.T) {
	x := newTape(t, 1000)
	for _, row := range []string{"", "\x08eight", "\xffmany", "\x00", "\x08", "\x03three"} {
		f, _ := wire.Frame([]byte(row))
		checkErrno(t, "Append", x.Append(f), api.OK)
	}
	c := opened(t, x)
	check(t, x, c, state{3: "three"})
	checkErrno(t, "Put", c.Put(cell(0, "zero")), api.OK)
	checkLasts(t, x, c, state{0: "zero", 3: "three"})
}

func TestPutEachCell(t *testing.T) {
	x := newTape(t, 400000)
	c := opened(t, x)
	var want state
	for _, n := range []int{7, 0, 3, 1, 6, 2, 5, 4} {
		l := cell(n, strings.Repeat("x", n+1))
		checkErrno(t, "Put", c.Put(l), api.OK)
		want = want.with(l)
		checkLasts(t, x, c, want)
	}
	if got := len(c.All()); got != api.MaxCells {
		t.Errorf("%d cells", got)
	}
}

func TestPutSeveral(t *testing.T) {
	x, c := cellsOf(t, 400000, cell(5, "five"), cell(1, "one"), cell(3, "three"))
	want := state{1: "one", 3: "three", 5: "five"}
	checkLasts(t, x, c, want)
	checkErrno(t, "Put", c.Put(cell(3, "3"), cell(7, "7"), cell(5, ""), cell(0, "0")), api.OK)
	checkLasts(t, x, c, state{0: "0", 1: "one", 3: "3", 7: "7"})
	if got := c.All(); len(got) != 4 || got[0].N != 0 || got[1].N != 1 || got[2].N != 3 || got[3].N != 7 {
		t.Errorf("All: %v", got)
	}
}

// The same bytes put again are no error, and change nothing.
func TestPutAgain(t *testing.T) {
	x, c := cellsOf(t, 400000, cell(0, "a"), cell(1, "b"))
	size := c.Size()
	checkErrno(t, "Put", c.Put(cell(1, "b")), api.OK)
	checkLasts(t, x, c, state{"a", "b"})
	if c.Size() > 2*size {
		t.Errorf("%d bytes, behind %d", c.Size(), size)
	}
}

func TestPutNone(t *testing.T) {
	x, c := cellsOf(t, 100, cell(1, "one"))
	checkRefused(t, x, c, api.OK)
	checkRefused(t, x, c, api.OK, []api.Cell{}...)
	x.Stop(1)
	checkRefused(t, x, c, api.OK)
	if x.Dead() {
		t.Error("the power went at nothing")
	}
	powerOff(t, x)
	checkRefused(t, x, c, api.OK)
	x, c = cellsOf(t, 1)
	check(t, x, c, state{})
}

func TestPutEmpty(t *testing.T) {
	x, c := cellsOf(t, 100, cell(1, "one"), cell(2, ""))
	checkLasts(t, x, c, state{1: "one"})
	checkErrno(t, "Put", c.Put(api.Cell{N: 1}, cell(3, "three")), api.OK)
	checkLasts(t, x, c, state{3: "three"})
	checkErrno(t, "Put", c.Put(cell(3, "")), api.OK)
	checkLasts(t, x, c, state{})
	if len(c.All()) != 0 {
		t.Errorf("All: %v", c.All())
	}
	checkErrno(t, "Put", c.Put(cell(3, "anew")), api.OK)
	checkLasts(t, x, c, state{3: "anew"})
}

func TestGetNoCell(t *testing.T) {
	_, c := cellsOf(t, 400000, cell(0, "0"), cell(7, "7"))
	for _, n := range []int{1, 6, -1, 8, 255, 256, 256 + 7, -256, math.MaxInt, math.MinInt} {
		if got := c.Get(n); len(got) != 0 {
			t.Errorf("Get(%d): %q", n, got)
		}
	}
}

func TestPutNoCell(t *testing.T) {
	x, c := cellsOf(t, 400000, cell(0, "0"), cell(7, "7"))
	for _, n := range []int{-1, 8, 9, -8, 256, 256 + 7, math.MaxInt, math.MinInt} {
		checkRefused(t, x, c, api.ErrArg, cell(n, "x"))
		checkRefused(t, x, c, api.ErrArg, cell(n, ""))
		checkRefused(t, x, c, api.ErrArg, cell(0, "x"), cell(1, "y"), cell(n, "z"))
		checkRefused(t, x, c, api.ErrArg, cell(n, "x"), cell(0, "y"))
	}
}

func TestPutTwice(t *testing.T) {
	x, c := cellsOf(t, 400000, cell(0, "0"))
	for n := range api.MaxCells {
		other := cell((n+1)%api.MaxCells, "o")
		checkRefused(t, x, c, api.ErrArg, cell(n, "x"), cell(n, "y"))
		checkRefused(t, x, c, api.ErrArg, cell(n, "x"), cell(n, "x"))
		checkRefused(t, x, c, api.ErrArg, cell(n, ""), cell(n, "x"))
		checkRefused(t, x, c, api.ErrArg, cell(n, "x"), other, cell(n, ""))
		checkRefused(t, x, c, api.ErrArg, other, cell(n, "x"), cell(n, "y"))
	}
	var all []api.Cell
	for n := range api.MaxCells + 1 {
		all = append(all, cell(n%api.MaxCells, "x"))
	}
	checkRefused(t, x, c, api.ErrArg, all...)
	checkErrno(t, "Put", c.Put(all[1:]...), api.OK)
}

func TestPutLong(t *testing.T) {
	x, c := cellsOf(t, 400000, cell(0, "0"))
	for n := range api.MaxCells {
		checkRefused(t, x, c, api.ErrLong, great(n, 12001))
		checkRefused(t, x, c, api.ErrLong, cell((n+1)%api.MaxCells, "ahead"), great(n, 12001))
	}
	checkRefused(t, x, c, api.ErrLong, great(0, api.MaxRecord+1))
	var want state
	want[0] = "0"
	for n := range api.MaxCells {
		checkErrno(t, "Put", c.Put(great(n, 12000)), api.OK)
		want = want.with(great(n, 12000))
		checkLasts(t, x, c, want)
	}
}

// P6: of two errors that of the first cell, and of one cell the one that is named first.
func TestOrderOfErrors(t *testing.T) {
	long := great(1, 12001)
	rows := []struct {
		want api.Errno
		l    []api.Cell
	}{
		{api.ErrArg, []api.Cell{great(8, 12001)}},
		{api.ErrArg, []api.Cell{great(-1, 12001)}},
		{api.ErrArg, []api.Cell{cell(1, "x"), long}},
		{api.ErrLong, []api.Cell{long, cell(8, "x")}},
		{api.ErrLong, []api.Cell{long, cell(-1, "x")}},
		{api.ErrLong, []api.Cell{long, cell(1, "x")}},
		{api.ErrLong, []api.Cell{long, long}},
		{api.ErrArg, []api.Cell{cell(8, "x"), long}},
		{api.ErrArg, []api.Cell{cell(2, "x"), cell(2, "y"), long}},
		{api.ErrLong, []api.Cell{cell(2, "x"), long, cell(2, "y")}},
	}
	for i, r := range rows {
		for _, room := range []int{100, 400000} { // in 100 there is no room, either
			x, c := cellsOf(t, room, cell(0, "0"))
			checkRefused(t, x, c, r.want, r.l...)
			powerOff(t, x)
			checkRefused(t, x, c, r.want, r.l...)
			if t.Failed() {
				t.Fatalf("row %d, room %d", i, room)
			}
		}
	}
}

func TestPutWithoutPower(t *testing.T) {
	x, c := cellsOf(t, 100, cell(0, "0"))
	powerOff(t, x)
	checkRefused(t, x, c, api.ErrDead, cell(0, "x"))
	checkRefused(t, x, c, api.ErrDead, cell(1, ""))
	checkRefused(t, x, c, api.ErrDead, cell(0, "0"))
	checkRefused(t, x, c, api.ErrDead, great(1, 200)) // and there is no room
	x.Crash(0)
	check(t, x, opened(t, x), state{"0"})
}

func TestPutWithoutRoom(t *testing.T) {
	x, c := cellsOf(t, 100, cell(0, "0"), cell(1, strings.Repeat("1", 40)))
	had := state{"0", strings.Repeat("1", 40)}
	checkRefused(t, x, c, api.ErrFull, great(2, 101))
	checkRefused(t, x, c, api.ErrFull, cell(0, "x"), great(2, 101))
	checkRefused(t, x, c, api.ErrFull, great(2, 60)) // there is room for it, but not beside the others
	x.Stop(1)
	checkRefused(t, x, c, api.ErrFull, great(2, 60)) // it would not answer OK: the power does not go at it
	x.Stop(0)
	checkLasts(t, x, c, had)
	checkErrno(t, "Put", c.Put(great(2, 60), cell(1, "")), api.OK)
	checkLasts(t, x, c, state{0: "0", 2: strings.Repeat("g", 60)})
}

// What was put over takes no room that another Put needs.
func TestPutOverInLittleRoom(t *testing.T) {
	x, c := cellsOf(t, 100, great(0, 80))
	for k := range 50 {
		l := cell(0, strings.Repeat(string(rune('a'+k%26)), 50+k%31))
		checkErrno(t, "Put", c.Put(l), api.OK)
		checkLasts(t, x, c, state{}.with(l))
	}
}

// P502: the greatest cells, all of them, some of them and one, put again and again.
func TestSize(t *testing.T) {
	for _, many := range []int{8, 5, 3, 1} {
		x := newTape(t, 400000)
		c := opened(t, x)
		var want state
		for k := range 60 {
			var l []api.Cell
			for i := range many {
				l = append(l, cell((k+i)%api.MaxCells, strings.Repeat(string(rune('a'+k%26)), 12000)))
			}
			checkErrno(t, "Put", c.Put(l...), api.OK)
			want = want.with(l...)
			check(t, x, c, want)
			if c.Size() > 200000 {
				t.Fatalf("%d cells at once, behind %d Puts: %d bytes", many, k+1, c.Size())
			}
			c = opened(t, x)
			check(t, x, c, want)
		}
	}
}

// P502: little cells, too, many times: not the bytes alone take room.
func TestSizeOfManyPuts(t *testing.T) {
	x := newTape(t, 400000)
	c := opened(t, x)
	for k := range 40000 {
		checkErrno(t, "Put", c.Put(cell(k%api.MaxCells, string(rune('a'+k%26)))), api.OK)
		if c.Size() > 200000 {
			t.Fatalf("behind %d Puts: %d bytes", k+1, c.Size())
		}
	}
	checkLasts(t, x, c, stateOf(t, c))
}

// roomy are bytes with spare room behind them.
func roomy(s string) []byte { return append(make([]byte, 0, len(s)+8), s...) }

// P2: what is handed in stays as it was, and may be changed then.
func TestPutLeavesWhatIsHandedIn(t *testing.T) {
	x := newTape(t, 400000)
	c := opened(t, x)
	l := make([]api.Cell, 2, 4)
	l[0], l[1] = api.Cell{N: 3, Data: roomy("three")}, api.Cell{N: 1, Data: roomy("one")}
	checkErrno(t, "Put", c.Put(l...), api.OK)
	spare := l[:4]
	if l[0].N != 3 || string(l[0].Data) != "three" || l[1].N != 1 || string(l[1].Data) != "one" || spare[2].N != 0 || spare[3].Data != nil {
		t.Errorf("%v", spare)
	}
	for _, x := range l {
		if !bytes.Equal(x.Data[len(x.Data):cap(x.Data)], make([]byte, 8)) {
			t.Error("the spare room was written to")
		}
		copy(x.Data[:cap(x.Data)], "????????")
	}
	l[0], l[1] = cell(5, "other"), cell(6, "other")
	checkLasts(t, x, c, state{1: "one", 3: "three"})
}

// P2: what is answered is nobody else's.
func TestAnswersAreNew(t *testing.T) {
	x, c := cellsOf(t, 400000, cell(1, "one"), cell(3, "three"))
	want := state{1: "one", 3: "three"}
	got := c.Get(1)
	copy(got[:cap(got)], "????????????????")
	check(t, x, c, want)
	l, other := c.All(), c.All()
	for i := range l {
		copy(l[i].Data[:cap(l[i].Data)], "????????????????")
		l[i].N = 6
	}
	l = append(l[:1], cell(7, "seven"))
	check(t, x, c, want)
	if other[0].N != 1 || string(other[0].Data) != "one" || other[1].N != 3 || string(other[1].Data) != "three" {
		t.Errorf("two answers of All share memory: %v, %v", l, other)
	}
	o := opened(t, x)
	got = o.Get(3)
	copy(got[:cap(got)], "????????????????")
	checkLasts(t, x, o, want)
}

// P2: no two lists of one answer share memory, their spare room neither.
func TestCellsOfAllAreApart(t *testing.T) {
	_, c := cellsOf(t, 400000, cell(0, "aaa"), cell(1, "bbb"), cell(2, "ccc"))
	l := c.All()
	for i := range l {
		full := l[i].Data[:cap(l[i].Data)]
		for j := range full {
			full[j] = '?'
		}
		for k := i + 1; k < len(l); k++ {
			if strings.Contains(string(l[k].Data), "?") {
				t.Errorf("cells %d and %d share memory", i, k)
			}
		}
	}
}

// P3, P7: the same calls answer the same; cells on other tapes know nothing of them.
func TestTapesAreApart(t *testing.T) {
	x, a := cellsOf(t, 400000, cell(1, "one"), cell(0, "zero"))
	y, b := cellsOf(t, 400000, cell(1, "one"), cell(0, "zero"))
	if !bytes.Equal(x.Bytes(), y.Bytes()) || a.Size() != b.Size() {
		t.Errorf("%q, %q", x.Bytes(), y.Bytes())
	}
	checkErrno(t, "Put", a.Put(cell(0, "a"), cell(2, "c")), api.OK)
	checkLasts(t, x, a, state{"a", "one", "c"})
	checkLasts(t, y, b, state{"zero", "one"})
}

// A refusal tells which cell of the row it speaks of, and is the error that is told.
func TestRefusal(t *testing.T) {
	err := refuse(cell(0, "a"), great(1, 12001))
	var x *refusal
	if !errors.As(err, &x) || x.at != 1 || !errors.Is(err, api.ErrLong) || errors.Is(err, api.ErrArg) {
		t.Errorf("%v", err)
	}
	if err.Error() != "cell 1: long" {
		t.Error(err.Error())
	}
	if err := refuse(cell(0, "a"), cell(1, "b")); err != nil {
		t.Error(err)
	}
	for _, e := range []api.Errno{api.ErrArg, api.ErrLong, api.ErrDead, api.ErrFull} {
		checkErrno(t, "number", number(&refusal{at: 3, inner: &refusal{inner: e}}), e)
		checkErrno(t, "number", number(e), e)
	}
	checkErrno(t, "number", number(nil), api.OK)
}

// P1: any row at all is answered.
func TestManyCellsInARow(t *testing.T) {
	x, c := cellsOf(t, 400000, cell(0, "0"))
	checkRefused(t, x, c, api.ErrArg, slices.Repeat([]api.Cell{cell(1, "x"), cell(2, "y")}, 100000)...)
}
