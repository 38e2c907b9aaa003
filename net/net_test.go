package net

import (
	"math"
	"reflect"
	"testing"

	"synodal/api"
)

// msg is a message that is told apart by its number.
func msg(from, to, number int) api.Msg {
	return api.Msg{From: from, To: to, Kind: 1, Index: number}
}

// full is a message of which every field says something.
func full() api.Msg {
	return api.Msg{
		From: 3, To: 4, Gen: 2, Kind: 15, Term: 7, Index: 8, Last: 9, Commit: 10, Yes: true,
		Terms: []int{1, 2, 3},
		Entries: []api.Entry{
			{Kind: api.KConf, Client: 1, Seq: 2, Data: "text", Members: []int{0, 1, 2}, To: api.Chain},
			{Kind: api.KDone, Members: []int{3, 4}},
		},
		Config: api.Config{Old: []int{0, 1}, New: []int{2, 3, 4}},
	}
}

// numbered is a net with so many messages from 0 to 1, numbered from 0 on.
func numbered(count int) *Net {
	n := New()
	for i := range count {
		n.Send(msg(0, 1, i))
	}
	return n
}

func checkErrno(t *testing.T, what string, got, want api.Errno) {
	t.Helper()
	if got != want {
		t.Errorf("%s: %v, not %v", what, got, want)
	}
}

// checkCounts holds Len and Lost against what they must tell.
func checkCounts(t *testing.T, what string, n *Net, under, lost int) {
	t.Helper()
	if n.Len() != under || n.Lost() != lost {
		t.Errorf("%s: %d under way and %d lost, not %d and %d", what, n.Len(), n.Lost(), under, lost)
	}
}

// checkLeft delivers all, from the first on, and holds their numbers against those that must be under way.
func checkLeft(t *testing.T, what string, n *Net, want ...int) {
	t.Helper()
	got := []int{}
	for n.Len() > 0 {
		m, e := n.Deliver(0)
		if e != api.OK {
			t.Fatalf("%s: Deliver: %v", what, e)
		}
		got = append(got, m.Index)
	}
	if len(got) != len(want) || len(want) > 0 && !reflect.DeepEqual(got, want) {
		t.Errorf("%s: %v under way, not %v", what, got, want)
	}
}

// checkNone says of a net without messages that the three that pick one answer ErrNone, and leave it as it was.
func checkNone(t *testing.T, what string, n *Net) {
	t.Helper()
	lost := n.Lost()
	for _, k := range []int{0, 1, -1, math.MaxInt, math.MinInt} {
		m, e := n.Deliver(k)
		checkErrno(t, what+": Deliver", e, api.ErrNone)
		if !reflect.DeepEqual(m, api.Msg{}) {
			t.Errorf("%s: Deliver(%d): %+v beside the error", what, k, m)
		}
		checkErrno(t, what+": Drop", n.Drop(k), api.ErrNone)
		checkErrno(t, what+": Double", n.Double(k), api.ErrNone)
		checkCounts(t, what, n, 0, lost)
	}
}

// P7: of two nets the one knows nothing of the other.
func TestNew(t *testing.T) {
	a, b := New(), New()
	a.Send(msg(0, 1, 0))
	a.Cut([]int{0})
	b.Send(msg(0, 1, 1))
	checkCounts(t, "the one", a, 0, 1)
	checkCounts(t, "the other", b, 1, 0)
}

// P601: what is sent is under way, behind the others, and comes in that order if the first one is always delivered.
func TestSend(t *testing.T) {
	n := New()
	checkCounts(t, "New", n, 0, 0)
	n.Send()
	checkCounts(t, "Send of none", n, 0, 0)
	checkNone(t, "Send of none", n)
	n.Send(msg(0, 1, 0))
	checkCounts(t, "Send of one", n, 1, 0)
	n.Send(msg(2, 1, 1), msg(1, 0, 2), msg(2, 2, 3))
	checkCounts(t, "Send of several", n, 4, 0)
	n.Send([]api.Msg{}...)
	n.Send(nil...)
	n.Send(msg(0, 1, 4))
	checkLeft(t, "Send", n, 0, 1, 2, 3, 4)
	checkCounts(t, "all delivered", n, 0, 0)
}

func TestExample(t *testing.T) {
	n := New()
	n.Send(msg(0, 1, 'a'), msg(0, 1, 'b'))
	m, e := n.Deliver(1)
	checkErrno(t, "Deliver", e, api.OK)
	if m.Index != 'b' {
		t.Errorf("Deliver(1): %c", m.Index)
	}
}

// P601: what is delivered is what was sent, field by field; the net asks nothing of it, so wrong messages come as they are, too.
func TestWhole(t *testing.T) {
	wrong := []api.Msg{
		{},
		{From: -1, To: math.MaxInt, Kind: -3, Index: math.MinInt},
		{From: math.MinInt, To: math.MinInt, Kind: 16, Entries: make([]api.Entry, api.MaxLog+1), Terms: make([]int, 1000)},
		{Entries: []api.Entry{{Kind: 99, Client: -1, Data: "much longer than an entry's text", Members: []int{5, 5, -5}}}},
		{Config: api.Config{Old: []int{9, 8}, New: []int{100, 100}}},
	}
	n := New()
	n.Send(full())
	n.Send(wrong...)
	for i, want := range append([]api.Msg{full()}, wrong...) {
		checkErrno(t, "Double", n.Double(0), api.OK)
		m, e := n.Deliver(0)
		checkErrno(t, "Deliver", e, api.OK)
		again, e := n.Deliver(-1)
		checkErrno(t, "Deliver of the double", e, api.OK)
		if !reflect.DeepEqual(m, want) || !reflect.DeepEqual(again, want) {
			t.Errorf("message %d: %+v, and doubled %+v, not %+v", i, m, again, want)
		}
	}
}

// P2: no list and an empty one are the same.
func TestEmptyLists(t *testing.T) {
	n := New()
	n.Send(api.Msg{
		From: 1, Terms: []int{}, Entries: []api.Entry{},
		Config: api.Config{Old: []int{}, New: []int{}},
	})
	m, e := n.Deliver(0)
	checkErrno(t, "Deliver", e, api.OK)
	if m.From != 1 || len(m.Terms)+len(m.Entries)+len(m.Config.Old)+len(m.Config.New) != 0 {
		t.Errorf("Deliver: %+v", m)
	}
}

// picks are numbers, and which one of three they pick.
var picks = []struct{ k, at int }{
	{0, 0}, {1, 1}, {2, 2},
	{3, 0}, {4, 1}, {5, 2}, {6, 0}, {300, 0}, {301, 1},
	{-1, 2}, {-2, 1}, {-3, 0}, {-4, 2}, {-300, 0}, {-301, 2},
	{math.MaxInt, 1}, {math.MaxInt - 1, 0}, {math.MinInt, 1}, {math.MinInt + 1, 2},
}

func without(at int) []int {
	return append(append([]int{}, []int{0, 1, 2}[:at]...), []int{0, 1, 2}[at+1:]...)
}

// P601, P9: the k-th, counted from 0 on, modulo how many there are.
func TestDeliver(t *testing.T) {
	for _, p := range picks {
		n := numbered(3)
		m, e := n.Deliver(p.k)
		checkErrno(t, "Deliver", e, api.OK)
		if m.Index != p.at {
			t.Errorf("Deliver(%d): message %d, not %d", p.k, m.Index, p.at)
		}
		checkCounts(t, "Deliver", n, 2, 0)
		checkLeft(t, "Deliver", n, without(p.at)...)
		checkNone(t, "all delivered", n)
	}
}

func TestDrop(t *testing.T) {
	for _, p := range picks {
		n := numbered(3)
		checkErrno(t, "Drop", n.Drop(p.k), api.OK)
		checkCounts(t, "Drop", n, 2, 1)
		checkLeft(t, "Drop", n, without(p.at)...)
		checkCounts(t, "all delivered", n, 0, 1)
		checkNone(t, "all delivered", n)
	}
}

func TestDouble(t *testing.T) {
	for _, p := range picks {
		n := numbered(3)
		checkErrno(t, "Double", n.Double(p.k), api.OK)
		checkCounts(t, "Double", n, 4, 0)
		checkLeft(t, "Double", n, 0, 1, 2, p.at)
		checkNone(t, "all delivered", n)
	}
}

// P9: of one message each number picks that one.
func TestOne(t *testing.T) {
	for _, k := range []int{0, 1, 2, -1, -2, math.MaxInt, math.MinInt} {
		n := numbered(1)
		checkErrno(t, "Double", n.Double(k), api.OK)
		checkErrno(t, "Drop", n.Drop(0), api.OK)
		checkCounts(t, "Drop of the one", n, 1, 1)
		checkErrno(t, "Drop", n.Drop(k), api.OK)
		checkCounts(t, "Drop of its double", n, 0, 2)
		checkNone(t, "both dropped", n)
	}
}

func TestDoubleOfDoubles(t *testing.T) {
	n := numbered(2)
	checkErrno(t, "Double of the last", n.Double(-1), api.OK)
	checkErrno(t, "Double of its double", n.Double(2), api.OK)
	checkErrno(t, "Double of the first", n.Double(0), api.OK)
	checkCounts(t, "Double", n, 5, 0)
	checkErrno(t, "Drop of the last", n.Drop(4), api.OK)
	n.Send(msg(0, 1, 9))
	checkLeft(t, "Double", n, 0, 1, 1, 1, 9)
	checkCounts(t, "all delivered", n, 0, 1)
}

// P601: whichever of some is taken, the others stay in their order; and what is sent then comes behind them.
func TestTakenAnywhere(t *testing.T) {
	for count := 1; count <= 9; count++ {
		for at := range count {
			n := numbered(count)
			m, e := n.Deliver(at)
			checkErrno(t, "Deliver", e, api.OK)
			if m.Index != at {
				t.Errorf("Deliver(%d) of %d: message %d", at, count, m.Index)
			}
			n.Send(msg(0, 1, count))
			var want []int
			for i := range count + 1 {
				if i != at {
					want = append(want, i)
				}
			}
			checkLeft(t, "the others", n, want...)
		}
	}
}

// Messages that are delivered in order, or from the last on, cost no more where many are under way.
func TestMany(t *testing.T) {
	const count = 300000
	n := numbered(count)
	for i := range count / 2 {
		first, _ := n.Deliver(0)
		last, _ := n.Deliver(-1)
		if first.Index != i || last.Index != count-1-i {
			t.Fatalf("messages %d and %d, not %d and %d", first.Index, last.Index, i, count-1-i)
		}
	}
	checkNone(t, "all delivered", n)
}

// What is under way no more is not kept.
func TestNothingKept(t *testing.T) {
	n := numbered(9)
	n.Send(msg(5, 6, 9))
	all := n.way
	n.Deliver(0)
	n.Deliver(2)
	n.Drop(-2)
	n.Cut([]int{5})
	under := map[*api.Msg]int{}
	for _, m := range n.way {
		under[m]++
	}
	for i, m := range all {
		if m != nil && under[m] != 1 {
			t.Errorf("slot %d keeps message %d", i, m.Index)
		}
	}
}
