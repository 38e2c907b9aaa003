package net

import (
	"reflect"
	"testing"

	"synodal/api"
)

// spoil changes all that a message's lists hold, and their spare room.
func spoil(m api.Msg) {
	spoilNumbers(m.Terms, m.Config.Old, m.Config.New)
	l := m.Entries[:cap(m.Entries)]
	for i := range l {
		spoilNumbers(l[i].Members)
		l[i] = api.Entry{Kind: -9, Data: "spoilt", Members: []int{-9}}
	}
}

func spoilNumbers(lists ...[]int) {
	for _, l := range lists {
		l = l[:cap(l)]
		for i := range l {
			l[i] = -9
		}
	}
}

func checkFull(t *testing.T, what string, m api.Msg) {
	t.Helper()
	if !reflect.DeepEqual(m, full()) {
		t.Errorf("%s: %+v", what, m)
	}
}

func delivered(t *testing.T, n *Net, k int) api.Msg {
	t.Helper()
	m, e := n.Deliver(k)
	checkErrno(t, "Deliver", e, api.OK)
	return m
}

// P2: a caller may change what they sent, the row too.
func TestSentIsNotKept(t *testing.T) {
	n := New()
	row := []api.Msg{full(), full()}
	n.Send(row...)
	for i := range row {
		spoil(row[i])
		row[i] = api.Msg{}
	}
	checkFull(t, "the first", delivered(t, n, 0))
	checkFull(t, "the second", delivered(t, n, 0))
}

// P2: what was sent stays as it was, its spare room too, whatever is done with what was delivered.
func TestSentIsNotChanged(t *testing.T) {
	roomy := func(l ...int) []int { return append(l, 77, 78)[:len(l)] }
	m := full()
	m.Terms, m.Config.Old, m.Config.New = roomy(1, 2, 3), roomy(0, 1), roomy(2, 3, 4)
	m.Entries[1].Members = roomy(3, 4)
	m.Entries = append(m.Entries, api.Entry{Data: "spare"})[:2]
	row := append([]api.Msg{m}, msg(7, 7, 7))[:1]
	n := New()
	n.Send(row...)
	n.Send(msg(8, 8, 8))
	checkErrno(t, "Double", n.Double(0), api.OK)
	spoil(delivered(t, n, 0))
	spoil(delivered(t, n, 1))
	n.Cut([]int{8})
	checkFull(t, "what was sent", row[0])
	for i, l := range [][]int{m.Terms, m.Config.Old, m.Config.New, m.Entries[1].Members} {
		if !reflect.DeepEqual(l[len(l):len(l)+2], []int{77, 78}) {
			t.Errorf("the spare room of list %d: %v", i, l[:cap(l)])
		}
	}
	if m.Entries[:3][2].Data != "spare" || row[:2][1].From != 7 {
		t.Error("the spare room of Entries, or of the row")
	}
}

// P2: a message and its doubles share nothing, in whatever order they are delivered.
func TestDeliveredIsOwn(t *testing.T) {
	for _, k := range []int{0, 1, 2} {
		n := New()
		n.Send(full())
		checkErrno(t, "Double", n.Double(0), api.OK)
		checkErrno(t, "Double of the double", n.Double(1), api.OK)
		a := delivered(t, n, k)
		checkFull(t, "the first that is delivered", a)
		spoil(a)
		b := delivered(t, n, 0)
		checkFull(t, "the second", b)
		checkErrno(t, "Double", n.Double(0), api.OK)
		spoil(b)
		checkFull(t, "the third", delivered(t, n, 0))
		checkFull(t, "its double", delivered(t, n, 0))
	}
}

// P2: what was sent may have its lists in one piece of memory; what is delivered has not.
func TestListsOfOneAnswer(t *testing.T) {
	one := []int{1, 2, 3, 4}[:2]
	n := New()
	n.Send(api.Msg{
		Terms:   one,
		Entries: []api.Entry{{Members: one}, {Members: one}},
		Config:  api.Config{Old: one, New: one[:1]},
	})
	checkErrno(t, "Double", n.Double(0), api.OK)
	for range 2 {
		m := delivered(t, n, 0)
		lists := [][]int{m.Terms, m.Entries[0].Members, m.Entries[1].Members, m.Config.Old, m.Config.New}
		for i, l := range lists {
			spoilNumbers(l)
			for j, other := range lists {
				if j > i && other[0] != 1 {
					t.Errorf("lists %d and %d share memory", i, j)
				}
			}
		}
	}
	if !reflect.DeepEqual(one[:4], []int{1, 2, 3, 4}) {
		t.Errorf("what was sent: %v", one[:4])
	}
}

// P2: a caller may change the list that a Cut was told; a Cut does not.
func TestSideIsNotKept(t *testing.T) {
	side := []int{2, 0, 2, 9, 9}[:3]
	n := New()
	n.Send(msg(0, 1, 0), msg(0, 2, 1), msg(3, 1, 2))
	n.Cut(side)
	if !reflect.DeepEqual(side[:5], []int{2, 0, 2, 9, 9}) {
		t.Errorf("Cut made %v of its list", side[:5])
	}
	spoilNumbers(side)
	n.Send(msg(0, 1, 3), msg(2, 0, 4), msg(-9, 1, 5), msg(-9, 2, 6))
	checkCounts(t, "Cut", n, 4, 3)
	checkLeft(t, "Cut", n, 1, 2, 4, 5)
}
