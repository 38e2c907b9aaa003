package link

import (
	"testing"

	"synodal/api"
)

// stamp is a message, as far as a link asks.
type stamp struct{ peer, life, n int }

// model is what the document says of a link, worked out from all that was ever taken.
type model struct {
	taken   []stamp
	sent    []int // the peers of all stamps
	refused int
}

func (w *model) stamp(peer int) int {
	w.sent = append(w.sent, peer)
	count := 0
	for _, p := range w.sent {
		if p == peer {
			count++
		}
	}
	return count
}

func (w *model) life(peer int) int {
	life := 0
	for _, x := range w.taken {
		if x.peer == peer {
			life = max(life, x.life)
		}
	}
	return life
}

func (w *model) answer(m stamp) api.Errno {
	if m.life < 1 || m.n < 1 {
		return api.ErrArg
	}
	if m.life < w.life(m.peer) {
		return api.ErrStale
	}
	for _, x := range w.taken {
		if x.peer == m.peer && x.life == m.life && (x.n == m.n || m.n <= x.n-256) {
			return api.ErrIs
		}
	}
	return api.OK
}

func (w *model) take(m stamp) api.Errno {
	e := w.answer(m)
	if e == api.OK {
		w.taken = append(w.taken, m)
	} else {
		w.refused++
	}
	return e
}

// law counts what P702 speaks of by what a link answered, not by what the model says.
type law struct {
	times map[stamp]int
	lives map[int]int
}

func newLaw() *law { return &law{times: map[stamp]int{}, lives: map[int]int{}} }

// check says of a message that was taken that it was not ahead, and that no newer life was.
func (w *law) check(t *testing.T, m stamp) {
	t.Helper()
	w.times[m]++
	if w.times[m] > 1 {
		t.Fatalf("%+v was taken %d times", m, w.times[m])
	}
	if m.life < w.lives[m.peer] {
		t.Fatalf("%+v was taken behind one of life %d", m, w.lives[m.peer])
	}
	w.lives[m.peer] = m.life
}

// checkRow takes messages on a new link, and holds each answer, and what the link tells behind it, against the model and the law.
func checkRow(t *testing.T, row []stamp) {
	t.Helper()
	l, w, law := New(0, 4), &model{}, newLaw()
	for i, m := range row {
		got, want := l.Take(m.peer, m.life, m.n), w.take(m)
		if got != want {
			t.Fatalf("%+v: %v, not %v", row[:i+1], got, want)
		}
		if got == api.OK {
			law.check(t, m)
		}
		if l.Life(m.peer) != w.life(m.peer) || l.Refused() != w.refused {
			t.Fatalf("%+v: life %d and %d refused, not %d and %d", row[:i+1], l.Life(m.peer), l.Refused(), w.life(m.peer), w.refused)
		}
	}
}

// P702, and P701 against the model: every row of five messages out of these.
func TestEveryRow(t *testing.T) {
	some := []stamp{
		{1, 1, 1}, {1, 1, 2}, {1, 1, 256}, {1, 1, 257}, {1, 1, 258}, {1, 1, 513},
		{1, 2, 1}, {1, 2, 257}, {1, 3, 258},
		{-1, 1, 257}, {1, 0, 2}, {1, 2, 0},
	}
	var row [5]stamp
	var fill func(at int)
	fill = func(at int) {
		if at == len(row) {
			checkRow(t, row[:])
			return
		}
		for _, m := range some {
			row[at] = m
			fill(at + 1)
		}
	}
	fill(0)
}

// P702: of one peer's numbers, every row of six, near both edges of what is looked back at.
func TestEveryRowOfNumbers(t *testing.T) {
	some := []int{1, 44, 45, 255, 256, 299, 300, 301, 556}
	var row [6]stamp
	var fill func(at int)
	fill = func(at int) {
		if at == len(row) {
			checkRow(t, row[:])
			return
		}
		for _, n := range some {
			row[at] = stamp{0, 1, n}
			fill(at + 1)
		}
	}
	fill(0)
}

// picks is a row of numbers that hang on a first one.
type picks uint32

func (x *picks) next(count int) int {
	*x = *x*1664525 + 1013904223
	return int(*x>>8) % count
}

// P702: long rows of messages that climb by small and great steps, come late and twice, from peers that begin anew.
func TestLongRows(t *testing.T) {
	for seed := range 150 {
		x := picks(seed)
		top, life := 1, 1
		var row []stamp
		for range 400 {
			switch x.next(12) {
			case 0:
				top += x.next(700)
			case 1:
				if x.next(8) == 0 {
					life, top = life+1, 1+x.next(top)
				}
			default:
				top += x.next(3)
			}
			m := stamp{x.next(2) - 1, life, top - x.next(5)}
			switch x.next(6) {
			case 0:
				m.n = top - 250 - x.next(12)
			case 1:
				m.n = top - x.next(300)
			case 2:
				m.life = life - x.next(2)
			}
			row = append(row, m)
		}
		checkRow(t, row)
	}
}

// P701, P3: the stamps among them are counted as the model counts them, and the same calls answer the same.
func TestStampsAmongTakes(t *testing.T) {
	a, b, w := New(1, 6), New(1, 6), &model{}
	x := picks(1)
	for i := range 2000 {
		peer := x.next(5) - 2
		m := stamp{peer, x.next(4), x.next(600)}
		want := w.take(m)
		if got, again := a.Take(m.peer, m.life, m.n), b.Take(m.peer, m.life, m.n); got != want || again != want {
			t.Fatalf("call %d, %+v: %v and %v, not %v", i, m, got, again, want)
		}
		n := w.stamp(peer)
		checkStamp(t, "the one", a, peer, 6, n)
		checkStamp(t, "the other", b, peer, 6, n)
	}
}

// P702: what one link stamps another one takes once, however often and late it comes; in the next life all anew, and nothing of the elder one.
func TestStampedIsTakenOnce(t *testing.T) {
	here := New(2, 1)
	law := newLaw()
	taken := 0
	give := func(m stamp) {
		if here.Take(m.peer, m.life, m.n) == api.OK {
			law.check(t, m)
			taken++
		}
	}
	var elder []stamp
	for life := 1; life <= 5; life++ {
		there := New(1, life)
		var row []stamp
		for range 200 {
			there.Stamp(3) // its other peers' numbers are not ours
			l, n := there.Stamp(2)
			row = append(row, stamp{1, l, n})
		}
		for i := range row {
			give(row[i^1])
			give(row[i])
			give(row[i/2])
		}
		if taken != 200*life {
			t.Errorf("life %d: %d taken, not %d", life, taken, 200*life)
		}
		for _, m := range elder {
			give(m)
		}
		elder = append(elder, row...)
	}
	checkLife(t, "at last", here, 1, 5)
}
