package net

import (
	"math"
	"testing"

	"synodal/api"
)

// pairs are messages from and to each of the nodes 0 to 3, numbered 10 from + to.
func pairs() []api.Msg {
	var l []api.Msg
	for from := range 4 {
		for to := range 4 {
			l = append(l, msg(from, to, 10*from+to))
		}
	}
	return l
}

// sides are what a Cut is told, and which messages of pairs it leaves.
var sides = []struct {
	what string
	side []int
	left []int
}{
	{"no list", nil, []int{0, 1, 2, 3, 10, 11, 12, 13, 20, 21, 22, 23, 30, 31, 32, 33}},
	{"no node", []int{}, []int{0, 1, 2, 3, 10, 11, 12, 13, 20, 21, 22, 23, 30, 31, 32, 33}},
	{"one", []int{1}, []int{0, 2, 3, 11, 20, 22, 23, 30, 32, 33}},
	{"one twice", []int{1, 1}, []int{0, 2, 3, 11, 20, 22, 23, 30, 32, 33}},
	{"one thrice", []int{1, 1, 1}, []int{0, 2, 3, 11, 20, 22, 23, 30, 32, 33}},
	{"two", []int{0, 2}, []int{0, 2, 11, 13, 20, 22, 31, 33}},
	{"two, falling", []int{2, 0}, []int{0, 2, 11, 13, 20, 22, 31, 33}},
	{"two, one of them twice", []int{0, 2, 0}, []int{0, 2, 11, 13, 20, 22, 31, 33}},
	{"the others", []int{1, 3}, []int{0, 2, 11, 13, 20, 22, 31, 33}},
	{"three", []int{3, 2, 0}, []int{0, 2, 3, 11, 20, 22, 23, 30, 32, 33}},
	{"all", []int{0, 1, 2, 3}, []int{0, 1, 2, 3, 10, 11, 12, 13, 20, 21, 22, 23, 30, 31, 32, 33}},
	{"nodes that nobody is", []int{-1, 4, math.MaxInt, math.MinInt}, []int{0, 1, 2, 3, 10, 11, 12, 13, 20, 21, 22, 23, 30, 31, 32, 33}},
	{"one, and one that nobody is", []int{-1, 1}, []int{0, 2, 3, 11, 20, 22, 23, 30, 32, 33}},
}

// P602: what is under way and cut is lost at once.
func TestCutUnderWay(t *testing.T) {
	for _, x := range sides {
		n := New()
		n.Send(pairs()...)
		n.Cut(x.side)
		checkCounts(t, x.what, n, len(x.left), 16-len(x.left))
		n.Cut(x.side)
		checkCounts(t, x.what+", again", n, len(x.left), 16-len(x.left))
		checkLeft(t, x.what, n, x.left...)
		checkNone(t, x.what, n)
	}
}

// P601, P602: what is sent behind a Cut, and cut, is lost.
func TestCutSent(t *testing.T) {
	for _, x := range sides {
		n := New()
		n.Cut(x.side)
		checkCounts(t, x.what+": Cut alone", n, 0, 0)
		n.Send(pairs()...)
		checkCounts(t, x.what, n, len(x.left), 16-len(x.left))
		checkLeft(t, x.what, n, x.left...)
		checkCounts(t, x.what+": all delivered", n, 0, 16-len(x.left))
	}
}

// P602: what is under way stays in order, and the count goes on from call to call.
func TestCutOneByOne(t *testing.T) {
	n := New()
	n.Send(msg(0, 1, 0), msg(1, 2, 1), msg(2, 3, 2))
	n.Cut([]int{0, 1})
	checkCounts(t, "Cut", n, 2, 1)
	n.Send(msg(1, 0, 3))
	checkCounts(t, "both stand in side", n, 3, 1)
	n.Send(msg(1, 3, 4))
	checkCounts(t, "From alone does", n, 3, 2)
	n.Send(msg(2, 0, 5))
	checkCounts(t, "To alone does", n, 3, 3)
	n.Send(msg(3, 2, 6))
	checkCounts(t, "neither does", n, 4, 3)
	n.Send(msg(1, 1, 7), msg(3, 3, 8))
	checkCounts(t, "to themselves", n, 6, 3)
	checkErrno(t, "Drop", n.Drop(4), api.OK)
	checkCounts(t, "Drop", n, 5, 4)
	checkErrno(t, "Double", n.Double(0), api.OK)
	checkCounts(t, "Double", n, 6, 4)
	checkLeft(t, "Cut", n, 0, 2, 3, 6, 8, 0)
	checkCounts(t, "all delivered", n, 0, 4)
}

// P602: the newer Cut alone counts, and what it does not cut, but the elder one did, stays lost.
func TestCutBehindCut(t *testing.T) {
	n := New()
	n.Cut([]int{0})
	n.Send(msg(0, 1, 0), msg(1, 2, 1))
	n.Cut([]int{1})
	checkCounts(t, "the newer", n, 0, 2)
	n.Send(msg(0, 2, 2), msg(0, 1, 3), msg(2, 1, 4))
	checkCounts(t, "the newer, behind it", n, 1, 4)
	n.Cut(nil)
	n.Send(msg(0, 1, 5))
	checkCounts(t, "no node", n, 2, 4)
	checkLeft(t, "Cut behind Cut", n, 2, 5)
}

// P602: behind Heal nothing is cut, and what was lost stays lost.
func TestHeal(t *testing.T) {
	n := New()
	n.Heal()
	n.Send(msg(0, 1, 0), msg(1, 2, 1))
	n.Cut([]int{0})
	n.Send(msg(1, 0, 2))
	checkCounts(t, "Cut", n, 1, 2)
	n.Heal()
	checkCounts(t, "Heal", n, 1, 2)
	n.Send(msg(0, 1, 3), msg(1, 0, 4))
	n.Heal()
	checkCounts(t, "behind Heal", n, 3, 2)
	n.Cut([]int{0})
	checkCounts(t, "Cut behind Heal", n, 1, 4)
	n.Heal()
	n.Send(msg(0, 1, 5))
	checkLeft(t, "Heal", n, 1, 5)
	checkCounts(t, "all delivered", n, 0, 4)
}
