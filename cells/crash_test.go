package cells

import (
	"math/rand"
	"strings"
	"testing"

	"synodal/api"
	"synodal/tape"
	"synodal/wire"
)

// life is cells on a tape, what the Puts that were answered OK made of them, and what one that was cut off was to make of them (the same, if none was).
type life struct {
	tape      *tape.Tape
	cells     *Cells
	was, next state
}

func born(t *testing.T, room int) *life {
	t.Helper()
	x := newTape(t, room)
	return &life{tape: x, cells: opened(t, x)}
}

// put makes one Put, and holds what the cells are then against its answer: a Put that answers an error has changed none of them. It tells whether the power is still there.
func (f *life) put(t *testing.T, l ...api.Cell) bool {
	t.Helper()
	dead := f.tape.Dead()
	e := f.cells.Put(l...)
	switch {
	case e == api.OK:
		f.was = f.was.with(l...)
		f.next = f.was
	case e == api.ErrDead && !dead:
		f.next = f.was.with(l...)
	case e != api.ErrFull && e != api.ErrDead:
		t.Fatalf("Put: %v", e)
	}
	if got := stateOf(t, f.cells); got != f.was {
		t.Fatalf("behind a Put that answered %v: %.300q, not %.300q", e, got, f.was)
	}
	if got := f.cells.Size(); got != len(f.tape.Bytes()) {
		t.Fatalf("Size: %d, but the tape has %d", got, len(f.tape.Bytes()))
	}
	return !f.tape.Dead()
}

// again crashes the tape and opens the cells, the power going first at each operation of Open that there is. It tells how many bytes stayed that were not synced.
func (f *life) again(t *testing.T, pick int) int {
	t.Helper()
	stayed := f.tape.Crash(pick)
	for stop := 1; ; stop++ {
		f.tape.Stop(stop)
		c, e := Open(f.tape)
		if e == api.OK {
			f.tape.Stop(0)
			f.cells = c
			break
		}
		checkErrno(t, "Open", e, api.ErrDead)
		if c != nil {
			t.Error("cells beside an error")
		}
		f.tape.Crash(pick)
	}
	got := stateOf(t, f.cells)
	if got != f.was && got != f.next {
		t.Fatalf("Crash(%d): %.300q, neither %.300q nor %.300q", pick, got, f.was, f.next)
	}
	f.was, f.next = got, got
	return stayed
}

// goesOn puts to cells that were opened anew, and opens them once more.
func (f *life) goesOn(t *testing.T) {
	t.Helper()
	if !f.put(t, cell(6, "six"), cell(0, "")) {
		t.Fatal("the power went")
	}
	checkLasts(t, f.tape, f.cells, f.was)
}

// scripts have cells that come, go, change and stay, one and several at once, and cells whose bytes are of a log's own form.
func scripts(t *testing.T) [][][]api.Cell {
	t.Helper()
	frame, e := wire.Frame([]byte("\x01inner"))
	checkErrno(t, "Frame", e, api.OK)
	inner, part := string(frame), string(frame[:9])
	var all []api.Cell
	for n := range api.MaxCells {
		all = append(all, cell(n, strings.Repeat("a", n)))
	}
	return [][][]api.Cell{
		{{cell(0, "a"), cell(1, "b")}},
		{{cell(0, "old"), cell(1, "old")}, {cell(0, "new"), cell(1, "new")}, {cell(1, "newer")}},
		{{cell(4, "x")}, {cell(4, "")}, {cell(4, "y"), cell(5, "z")}, {cell(5, ""), cell(4, "")}},
		{all, {cell(7, ""), cell(0, "zero"), cell(3, "three")}, all, {cell(2, "2")}},
		{{cell(0, inner)}, {cell(1, inner+inner), cell(0, part)}, {cell(2, part), cell(1, part)}, {cell(2, inner)}},
		{{cell(0, part)}, {cell(0, "\x00\x00\x00\x02")}, {cell(0, "\x00")}, {cell(0, inner+part)}},
		{{cell(3, "c"), cell(2, "b"), cell(1, "a")}, {cell(3, strings.Repeat("l", 50))}, {cell(3, "c")}, {cell(3, "")}},
	}
}

// cut makes the Puts of a script on new cells until the power goes, at the operation that stop says.
func cut(t *testing.T, room, stop int, script [][]api.Cell) *life {
	t.Helper()
	f := born(t, room)
	f.tape.Stop(stop)
	for i, l := range script {
		if !f.put(t, l...) {
			for _, l := range script[i:] { // none of these is written, either
				f.put(t, l...)
			}
			break
		}
	}
	return f
}

// P503: the power goes at each operation, each number of bytes stays, and the cells that are opened then are as the last Put that was answered OK made them, or as the one that was cut off was to make them.
func TestEveryCrash(t *testing.T) {
	for _, room := range []int{60, 150, 400000} {
		for _, script := range scripts(t) {
			for stop := 1; ; stop++ {
				for pick := 0; ; pick++ {
					f := cut(t, room, stop, script)
					if f.again(t, pick) != pick {
						break // no more were there that could stay
					}
					f.goesOn(t)
				}
				if f := cut(t, room, stop, script); !f.tape.Dead() {
					break
				}
			}
		}
	}
}

// P503: the same of cells that no one record has room for.
func TestGreatCellsCutOff(t *testing.T) {
	rows := make([][]api.Cell, 4)
	for k := range rows {
		for n := range api.MaxCells {
			rows[k] = append(rows[k], cell(n, strings.Repeat(string(rune('a'+k)), 12000)))
		}
	}
	for stop := 1; ; stop++ {
		f := cut(t, 400000, stop, rows)
		if !f.tape.Dead() {
			break
		}
		for _, pick := range []int{0, 1, 8, 12008, 12009, 65536, 65544, 70000, -1} {
			f := cut(t, 400000, stop, rows)
			f.again(t, pick)
			f.goesOn(t)
		}
	}
}

// Both, or neither; and what was there stays beside them.
func TestExample(t *testing.T) {
	for pick := range 30 {
		x, c := cellsOf(t, 100, cell(2, "c"))
		x.Stop(1)
		checkErrno(t, "Put", c.Put(cell(0, "a"), cell(1, "b")), api.ErrDead)
		check(t, x, c, state{2: "c"})
		x.Crash(pick)
		got := stateOf(t, opened(t, x))
		if got != (state{2: "c"}) && got != (state{"a", "b", "c"}) {
			t.Errorf("Crash(%d): %q", pick, got)
		}
	}
}

// W7: what was answered OK is synced: a crash takes nothing of it, whatever it keeps of the rest.
func TestPutLasts(t *testing.T) {
	for pick := range 20 {
		x, c := cellsOf(t, 400000, cell(0, "a"), cell(1, "b"))
		x.Crash(pick)
		check(t, x, opened(t, x), state{"a", "b"})
		checkErrno(t, "Put", opened(t, x).Put(cell(1, "c")), api.OK)
		x.Crash(pick)
		c = opened(t, x)
		checkLasts(t, x, c, state{"a", "c"})
	}
}

// Lives, one behind the other on one tape, the same whenever they are made (P3); the cells of the last life are those that the next one begins with.
func TestManyLives(t *testing.T) {
	r := rand.New(rand.NewSource(5))
	for _, room := range []int{40, 120, 400000} {
		f := born(t, room)
		for range 1500 {
			f.tape.Stop(r.Intn(8))
			for range r.Intn(10) {
				f.put(t, anyCells(r)...)
			}
			f.again(t, r.Intn(1000))
		}
	}
}

// anyCells is a row that may be put, but for room.
func anyCells(r *rand.Rand) []api.Cell {
	var l []api.Cell
	for _, n := range r.Perm(api.MaxCells)[:1+r.Intn(api.MaxCells)] {
		l = append(l, cell(n, strings.Repeat(string(rune('a'+r.Intn(26))), max(0, r.Intn(12)-3))))
	}
	return l
}
