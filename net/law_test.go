package net

import (
	"slices"
	"testing"

	"synodal/api"
)

// model is what the document says of a net, worked out in the plainest way; and what P603 counts.
type model struct {
	under           []api.Msg
	side            []int
	sent, delivered int // sent: doubled, too
	lost            int
}

func (w *model) cut(m api.Msg) bool {
	return slices.Contains(w.side, m.From) != slices.Contains(w.side, m.To)
}

func (w *model) send(l ...api.Msg) {
	for _, m := range l {
		w.sent++
		w.under = append(w.under, m)
	}
	w.lose()
}

// lose loses all that are under way and cut.
func (w *model) lose() {
	var stay []api.Msg
	for _, m := range w.under {
		if w.cut(m) {
			w.lost++
		} else {
			stay = append(stay, m)
		}
	}
	w.under = stay
}

// at is where the k-th is, counted step by step; -1: there is none.
func (w *model) at(k int) int {
	count := len(w.under)
	if count == 0 {
		return -1
	}
	for k < 0 {
		k += count
	}
	for k >= count {
		k -= count
	}
	return k
}

// take is the k-th; it is under way no more.
func (w *model) take(k int) (api.Msg, api.Errno) {
	at := w.at(k)
	if at < 0 {
		return api.Msg{}, api.ErrNone
	}
	m := w.under[at]
	w.under = slices.Concat(w.under[:at], w.under[at+1:])
	return m, api.OK
}

// step does one of the calls on both, and says whether they answered the same.
type step struct {
	name string
	do   func(n *Net, w *model) bool
}

func deliverStep(k int) step {
	return step{"Deliver", func(n *Net, w *model) bool {
		got, e := n.Deliver(k)
		want, f := w.take(k)
		if f == api.OK {
			w.delivered++
		}
		return e == f && got.From == want.From && got.To == want.To && got.Index == want.Index
	}}
}

func dropStep(k int) step {
	return step{"Drop", func(n *Net, w *model) bool {
		_, want := w.take(k)
		if want == api.OK {
			w.lost++
		}
		return n.Drop(k) == want
	}}
}

func doubleStep(k int) step {
	return step{"Double", func(n *Net, w *model) bool {
		at := w.at(k)
		if at < 0 {
			return n.Double(k) == api.ErrNone
		}
		w.send(w.under[at])
		return n.Double(k) == api.OK
	}}
}

func sendStep(l ...api.Msg) step {
	return step{"Send", func(n *Net, w *model) bool {
		n.Send(l...)
		w.send(l...)
		return true
	}}
}

func cutStep(side ...int) step {
	return step{"Cut", func(n *Net, w *model) bool {
		n.Cut(side)
		w.side = side
		w.lose()
		return true
	}}
}

func healStep() step {
	return step{"Heal", func(n *Net, w *model) bool {
		n.Heal()
		w.side = nil
		return true
	}}
}

// checkLaw holds what a net tells against the model, and says that nothing came from nowhere or went there.
func checkLaw(t *testing.T, names []string, n *Net, w *model) {
	t.Helper()
	if n.Len() != len(w.under) || n.Lost() != w.lost {
		t.Fatalf("%v: %d under way and %d lost, not %d and %d", names, n.Len(), n.Lost(), len(w.under), w.lost)
	}
	if w.sent != w.delivered+n.Lost()+n.Len() {
		t.Fatalf("%v: %d sent and doubled, %d delivered, %d lost, %d under way", names, w.sent, w.delivered, n.Lost(), n.Len())
	}
}

// checkSteps does steps on a new net, and delivers what is left then.
func checkSteps(t *testing.T, steps []step) {
	t.Helper()
	n, w := New(), &model{}
	var names []string
	one := func(s step) {
		t.Helper()
		names = append(names, s.name)
		if !s.do(n, w) {
			t.Fatalf("%v: answers something else", names)
		}
		checkLaw(t, names, n, w)
	}
	for _, s := range steps {
		one(s)
	}
	for len(w.under) > 0 {
		one(deliverStep(0))
	}
	one(deliverStep(0))
}

// P603, and P601 and P602 against the model: every row of five calls out of these.
func TestEveryRow(t *testing.T) {
	calls := []step{
		sendStep(msg(0, 1, 1), msg(1, 2, 2)),
		sendStep(msg(2, 0, 3)),
		deliverStep(0), deliverStep(-1),
		dropStep(1), doubleStep(-2),
		cutStep(0), cutStep(2, 1, 2), healStep(),
	}
	var row [5]step
	var fill func(at int)
	fill = func(at int) {
		if at == len(row) {
			checkSteps(t, row[:])
			return
		}
		for _, s := range calls {
			row[at] = s
			fill(at + 1)
		}
	}
	fill(0)
}

// P603: long rows of calls that one number after the other picks.
func TestLongRows(t *testing.T) {
	for seed := range uint32(200) {
		x := seed
		next := func(count int) int {
			x = x*1664525 + 1013904223
			return int(x>>8) % count
		}
		var steps []step
		for i := range 300 {
			k := next(41) - 20
			m := msg(next(6)-1, next(6)-1, i)
			switch next(10) {
			case 0:
				steps = append(steps, cutStep(next(5), next(5)))
			case 1:
				steps = append(steps, healStep())
			case 2:
				steps = append(steps, dropStep(k))
			case 3, 4:
				steps = append(steps, deliverStep(k))
			case 5, 6:
				steps = append(steps, doubleStep(k))
			default:
				steps = append(steps, sendStep(m, msg(m.To, m.From, -i)))
			}
		}
		checkSteps(t, steps)
	}
}
