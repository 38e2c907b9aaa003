package tally

import (
	"math"
	"testing"

	"synodal/api"
)

// ballot is one Add, what it must answer, and how the votes must stand behind it.
type ballot struct {
	id                 int
	yes, ok, won, lost bool
}

func checkBallots(t *testing.T, c api.Config, row ...ballot) {
	t.Helper()
	v := New(c)
	if v.Won() || v.Lost() {
		t.Errorf("%v: ahead of any vote: won %v, lost %v", c, v.Won(), v.Lost())
	}
	for i, b := range row {
		if got := v.Add(b.id, b.yes); got != b.ok {
			t.Errorf("%v: Add %d, (%d, %v): %v", c, i, b.id, b.yes, got)
		}
		if v.Won() != b.won || v.Lost() != b.lost {
			t.Errorf("%v: behind Add %d, (%d, %v): won %v, lost %v", c, i, b.id, b.yes, v.Won(), v.Lost())
		}
	}
}

// What is said, and what is neither won nor lost yet.
const (
	no   = false
	yes  = true
	open = false
)

// P901: Add of one that is no member, whatever its number, is false and changes nothing.
func TestAddOfOthers(t *testing.T) {
	others := list(-1, 0, 4, 8, 9, math.MinInt, math.MaxInt, 1<<32+1, -3)
	for _, c := range []api.Config{plain(1, 2, 3), joint(list(1, 2), list(2, 3)), joint(list(3), list(1))} {
		for _, says := range []bool{yes, no} {
			v := New(c)
			for _, id := range others {
				if v.Add(id, says) || v.Add(id, !says) {
					t.Errorf("%v: Add(%d) is true", c, id)
				}
			}
			if v.Won() || v.Lost() {
				t.Errorf("%v: won or lost by others", c)
			}
			if !v.Add(3, says) || !v.Add(1, says) {
				t.Errorf("%v: Add of a member is false", c)
			}
			v.Add(2, says)
			if v.Won() != says || v.Lost() == says {
				t.Errorf("%v: all said %v: won %v, lost %v", c, says, v.Won(), v.Lost())
			}
		}
	}
}

// P901: who has voted votes no more, neither the same way nor the other: the first vote stands.
func TestAddOnce(t *testing.T) {
	checkBallots(t, plain(1, 2, 3),
		ballot{1, yes, true, open, open},
		ballot{1, yes, false, open, open},
		ballot{1, no, false, open, open},
		ballot{2, no, true, open, open},
		ballot{2, no, false, open, open},
		ballot{2, yes, false, open, open},
		ballot{3, yes, true, true, open},
		ballot{3, no, false, true, open},
		ballot{3, yes, false, true, open},
		ballot{2, yes, false, true, open},
		ballot{1, no, false, true, open})
	checkBallots(t, plain(5),
		ballot{5, no, true, open, true},
		ballot{5, yes, false, open, true},
		ballot{5, no, false, open, true})
	checkBallots(t, plain(0),
		ballot{0, yes, true, true, open},
		ballot{0, no, false, true, open},
		ballot{0, yes, false, true, open})
}

// P901: who is in both lists votes once, for both.
func TestAddForBothLists(t *testing.T) {
	checkBallots(t, joint(list(4), list(4)),
		ballot{4, yes, true, true, open},
		ballot{4, yes, false, true, open})
	checkBallots(t, joint(list(4), list(4)),
		ballot{4, no, true, open, true},
		ballot{4, yes, false, open, true})
	checkBallots(t, joint(list(1, 2, 3), list(3, 4, 5)),
		ballot{3, yes, true, open, open},
		ballot{1, yes, true, open, open},
		ballot{3, yes, false, open, open},
		ballot{5, yes, true, true, open})
}

// P901: of each count of members: votes are won with one more than half who said yes, and lost where half, or one more, said no.
func TestWonAndLostBySoMany(t *testing.T) {
	for count := 1; count <= api.MaxMembers; count++ {
		c := plain(list(0, 1, 3, 4, 5, 7, 8)[:count]...)
		won, lost := New(c), New(c)
		for i, id := range c.New {
			won.Add(id, yes)
			lost.Add(id, no)
			n := i + 1
			if won.Won() != (2*n > count) || won.Lost() {
				t.Errorf("%d of %d said yes: won %v, lost %v", n, count, won.Won(), won.Lost())
			}
			if lost.Lost() != (2*n >= count) || lost.Won() {
				t.Errorf("%d of %d said no: won %v, lost %v", n, count, lost.Won(), lost.Lost())
			}
		}
	}
}

// P901: exactly half on both sides of an even count is lost; of an odd count the one in the midst decides.
func TestHalfAndHalf(t *testing.T) {
	checkBallots(t, plain(1, 2, 3, 4),
		ballot{1, yes, true, open, open},
		ballot{2, no, true, open, open},
		ballot{3, yes, true, open, open},
		ballot{4, no, true, open, true})
	checkBallots(t, plain(1, 2, 3, 4),
		ballot{1, yes, true, open, open},
		ballot{2, no, true, open, open},
		ballot{3, yes, true, open, open},
		ballot{4, yes, true, true, open})
	for _, last := range []bool{yes, no} {
		checkBallots(t, plain(0, 2, 4, 6, 8),
			ballot{8, yes, true, open, open},
			ballot{6, no, true, open, open},
			ballot{4, yes, true, open, open},
			ballot{2, no, true, open, open},
			ballot{0, last, true, last, !last})
	}
}

// P901: of a joint configuration one list that has a quorum is not enough; one that can have none any more is.
func TestOneListAlone(t *testing.T) {
	some := joint(list(0, 1, 2), list(2, 3, 4))
	checkBallots(t, some, // New has one first
		ballot{4, yes, true, open, open},
		ballot{3, yes, true, open, open},
		ballot{2, yes, true, open, open},
		ballot{1, yes, true, true, open},
		ballot{0, no, true, true, open})
	checkBallots(t, some, // Old has one first
		ballot{0, yes, true, open, open},
		ballot{1, yes, true, open, open},
		ballot{2, no, true, open, open},
		ballot{3, yes, true, open, open},
		ballot{4, yes, true, true, open})
	checkBallots(t, some, // New can have none any more, though Old has one
		ballot{0, yes, true, open, open},
		ballot{1, yes, true, open, open},
		ballot{3, no, true, open, open},
		ballot{4, no, true, open, true},
		ballot{2, yes, true, open, true})
	checkBallots(t, some, // Old can have none any more, though New has one
		ballot{3, yes, true, open, open},
		ballot{4, yes, true, open, open},
		ballot{0, no, true, open, open},
		ballot{1, no, true, open, true},
		ballot{2, yes, true, open, true})
	checkBallots(t, some, // who is in both takes a no to both
		ballot{2, no, true, open, open},
		ballot{0, no, true, open, true},
		ballot{3, yes, true, open, true},
		ballot{4, yes, true, open, true},
		ballot{1, yes, true, open, true})
	checkBallots(t, joint(list(7), list(0, 1, 2, 3)),
		ballot{0, yes, true, open, open},
		ballot{1, yes, true, open, open},
		ballot{2, yes, true, open, open},
		ballot{3, yes, true, open, open},
		ballot{7, no, true, open, true})
	checkBallots(t, joint(list(0, 1, 2, 3), list(7)),
		ballot{7, yes, true, open, open},
		ballot{0, no, true, open, open},
		ballot{1, no, true, open, true})
}

// P2: no Old is the same as an empty one.
func TestVotesOfEmptyOld(t *testing.T) {
	for _, old := range [][]int{nil, {}, make([]int, 0, 3)} {
		checkBallots(t, joint(old, list(1, 2, 3)),
			ballot{1, no, true, open, open},
			ballot{2, yes, true, open, open},
			ballot{3, yes, true, true, open})
	}
}

// P7: two Votes, of one configuration too, know nothing of each other.
func TestTwoVotes(t *testing.T) {
	c := plain(1, 2, 3)
	a, b := New(c), New(c)
	a.Add(1, yes)
	a.Add(2, yes)
	if b.Won() || b.Lost() || !a.Won() {
		t.Error("the other's votes count")
	}
	if !b.Add(1, no) || !b.Add(2, no) {
		t.Error("who voted there may not vote here")
	}
	if !a.Won() || a.Lost() || b.Won() || !b.Lost() {
		t.Error("the other's votes count")
	}
	if New(c).Lost() || New(c).Won() {
		t.Error("votes outlast their own")
	}
}
