package tally

import (
	"math"
	"slices"
	"testing"

	"synodal/api"
)

func list(ids ...int) []int { return ids }

func plain(now ...int) api.Config { return api.Config{New: now} }

func joint(old, now []int) api.Config { return api.Config{Old: old, New: now} }

// marks is a list of marks: an id and an index each.
func marks(pairs ...int) []Mark {
	var out []Mark
	for pair := range slices.Chunk(pairs, 2) {
		out = append(out, Mark{Id: pair[0], Index: pair[1]})
	}
	return out
}

func checkReach(t *testing.T, c api.Config, l []Mark, want int) {
	t.Helper()
	if got := Reach(c, l); got != want {
		t.Errorf("Reach(%v, %v): %d, not %d", c, l, got, want)
	}
}

// P901: the example, in any order of the marks.
func TestReach(t *testing.T) {
	c := plain(1, 2, 3)
	checkReach(t, c, marks(1, 5, 2, 7, 3, 4), 5)
	checkReach(t, c, marks(3, 4, 2, 7, 1, 5), 5)
	checkReach(t, c, marks(2, 7, 3, 4, 1, 5), 5)
	checkReach(t, c, marks(1, 4, 2, 5, 3, 7), 5)
	checkReach(t, c, marks(1, 7, 2, 5, 3, 4), 5)
}

// P901: without marks, nil or empty, nothing is reached.
func TestReachOfNoMarks(t *testing.T) {
	for _, c := range []api.Config{plain(0), plain(1, 2, 3), plain(0, 1, 2, 3, 4, 5, 6), joint(list(1), list(2)), joint(list(1, 2), list(1, 2))} {
		checkReach(t, c, nil, 0)
		checkReach(t, c, []Mark{}, 0)
	}
}

// P901: of each count of members marks of so many: up to half of them they reach nothing, with one more the least of them.
func TestReachOfSoMany(t *testing.T) {
	for count := 1; count <= api.MaxMembers; count++ {
		c := plain(list(0, 1, 3, 4, 5, 7, 8)[:count]...)
		for n := range count + 1 {
			var first, last []Mark
			for i := range n {
				first = append(first, Mark{c.New[i], 10 + i})
				last = append(last, Mark{c.New[count-1-i], 10 + i})
			}
			want := 0
			if 2*n > count {
				want = 10 + n - 1 - count/2 // all marks of 10 to 10+n-1 but the count/2 greatest ones are at or below it
			}
			checkReach(t, c, first, want)
			checkReach(t, c, last, want)
		}
	}
	checkReach(t, plain(1, 2), marks(1, 5), 0)
	checkReach(t, plain(1, 2), marks(1, 5, 2, 6), 5)
	checkReach(t, plain(1, 2, 3, 4), marks(1, 5, 2, 6), 0)
	checkReach(t, plain(1, 2, 3, 4), marks(1, 5, 2, 6, 4, 7), 5)
	checkReach(t, plain(1, 2, 3, 4), marks(1, 5, 2, 6, 4, 7, 3, 8), 6)
	checkReach(t, plain(1, 2, 3), marks(3, 6), 0)
	checkReach(t, plain(1, 2, 3), marks(3, 6, 1, 9), 6)
}

// P901: one member alone is enough, and seven need four.
func TestReachOfOneAndOfSeven(t *testing.T) {
	checkReach(t, plain(0), marks(0, 3), 3)
	checkReach(t, plain(8), marks(8, 1), 1)
	checkReach(t, plain(8), marks(7, 1), 0)
	seven := plain(0, 1, 2, 3, 4, 5, 6)
	checkReach(t, seven, marks(0, 10, 1, 70, 2, 20, 3, 60, 4, 30, 5, 50, 6, 40), 40)
	checkReach(t, seven, marks(0, 10, 1, 70, 2, 20, 3, 60), 10)
	checkReach(t, seven, marks(1, 70, 2, 20, 3, 60), 0)
	checkReach(t, seven, marks(0, 9, 1, 9, 2, 9, 3, 8, 4, 1, 5, 1, 6, 1), 8)
}

// P901: of several marks of one Id the last one counts, whether it is lower or higher than those ahead.
func TestReachByLastMarks(t *testing.T) {
	c := plain(1, 2, 3)
	checkReach(t, c, marks(1, 9, 2, 8, 1, 3), 3)
	checkReach(t, c, marks(1, 3, 2, 8, 1, 9), 8)
	checkReach(t, c, marks(1, 9, 1, 9, 1, 9), 0)
	checkReach(t, c, marks(1, 9, 2, 9, 2, 0), 0)
	checkReach(t, c, marks(1, 9, 2, 9, 2, -9), 0)
	checkReach(t, c, marks(1, 0, 2, 0, 3, 0, 3, 4, 2, 5), 4)
	checkReach(t, c, marks(1, 7, 2, 7, 1, 2, 1, 6, 2, 9, 2, 5), 5)
	checkReach(t, plain(4), marks(4, 9, 4, 2), 2)
	checkReach(t, plain(4), marks(4, 2, 4, 9), 9)
	checkReach(t, plain(4), marks(4, 9, 4, 2, 5, 9), 2)
	checkReach(t, joint(list(0, 1), list(1, 2)), marks(0, 5, 1, 9, 2, 6, 1, 4), 4)
}

// P901: marks of others than members count for nothing, and are nobody else's.
func TestReachPassesOthersOver(t *testing.T) {
	c := plain(1, 2, 3)
	checkReach(t, c, marks(0, 9, 4, 9, 5, 9, 6, 9), 0)
	checkReach(t, c, marks(1, 5, 4, 9, 5, 9), 0)
	checkReach(t, c, marks(1, 5, 4, 9, 2, 3, 0, 1), 3)
	checkReach(t, c, marks(-1, 9, -2, 9, -3, 9, 9, 9, 10, 9), 0)
	checkReach(t, c, marks(math.MinInt, 9, math.MaxInt, 9, 1<<32+1, 9, 1<<32+2, 9, 3, 9), 0)
	checkReach(t, c, marks(math.MinInt, 9, 2, 4, math.MaxInt, 1, 3, 6), 4)
	checkReach(t, joint(list(0, 1), list(3, 4)), marks(2, 9, 5, 9, 8, 9), 0)
}

// P901: marks at 0 and below are as none; those at the ends of int are marks like others.
func TestReachAtEnds(t *testing.T) {
	c := plain(1, 2, 3)
	checkReach(t, c, marks(1, 0, 2, 0, 3, 0), 0)
	checkReach(t, c, marks(1, -4, 2, -3, 3, -2), 0)
	checkReach(t, c, marks(1, 0, 2, 6, 3, 0), 0)
	checkReach(t, c, marks(1, -1, 2, 6, 3, 7), 6)
	checkReach(t, c, marks(1, -1, 2, 1, 3, 1), 1)
	checkReach(t, c, marks(1, -1, 2, 1, 3, 0), 0)
	checkReach(t, c, marks(1, math.MaxInt, 2, math.MaxInt, 3, math.MinInt), math.MaxInt)
	checkReach(t, c, marks(1, math.MaxInt, 2, math.MaxInt-1, 3, 1), math.MaxInt-1)
	checkReach(t, c, marks(1, math.MaxInt, 2, math.MinInt, 3, math.MinInt), 0)
	checkReach(t, c, marks(1, math.MinInt, 2, math.MinInt, 3, math.MinInt), 0)
	checkReach(t, plain(0), marks(0, math.MaxInt), math.MaxInt)
	checkReach(t, plain(0), marks(0, math.MinInt), 0)
	checkReach(t, plain(7), marks(7, 1<<40-1), 1<<40-1)
	checkReach(t, joint(list(0), list(1)), marks(0, math.MaxInt, 1, math.MinInt), 0)
	checkReach(t, joint(list(0), list(1)), marks(0, math.MaxInt, 1, math.MaxInt), math.MaxInt)
}

// P901: marks that are the same.
func TestReachOfSameMarks(t *testing.T) {
	c := plain(1, 2, 3, 4)
	checkReach(t, c, marks(1, 6, 2, 6, 3, 6, 4, 6), 6)
	checkReach(t, c, marks(1, 6, 2, 6, 3, 6), 6)
	checkReach(t, c, marks(1, 6, 2, 6), 0)
	checkReach(t, c, marks(1, 6, 2, 6, 3, 5, 4, 5), 5)
	checkReach(t, c, marks(1, 5, 2, 6, 3, 6, 4, 6), 6)
	checkReach(t, joint(list(0, 1), list(2, 3)), marks(0, 3, 1, 3, 2, 3, 3, 3), 3)
}

// P901: of a joint configuration both lists must reach it, whether they share all, some or no members.
func TestReachOfJoint(t *testing.T) {
	all := joint(list(1, 2, 3), list(1, 2, 3))
	checkReach(t, all, marks(1, 5, 2, 7, 3, 4), 5)
	some := joint(list(0, 1, 2), list(2, 3, 4))
	checkReach(t, some, marks(0, 9, 1, 9, 2, 9), 0)
	checkReach(t, some, marks(2, 9, 3, 9, 4, 9), 0)
	checkReach(t, some, marks(0, 9, 2, 5, 3, 7), 5)
	checkReach(t, some, marks(0, 4, 2, 9, 3, 7), 4)
	checkReach(t, some, marks(0, 8, 2, 9, 3, 7), 7)
	checkReach(t, some, marks(0, 9, 1, 8, 2, 2, 3, 7, 4, 6), 6)
	checkReach(t, some, marks(0, 4, 1, 4, 3, 9, 4, 9), 4)
	none := joint(list(5, 6, 7), list(0, 1))
	checkReach(t, none, marks(5, 3, 6, 8, 7, 9, 0, 4, 1, 6), 4)
	checkReach(t, none, marks(5, 3, 6, 2, 7, 1, 0, 4, 1, 6), 2)
	checkReach(t, none, marks(5, 3, 6, 8, 7, 9, 0, 4), 0)
	checkReach(t, none, marks(5, 3, 0, 4, 1, 6), 0)
	within := joint(list(1), list(0, 1, 2, 3))
	checkReach(t, within, marks(0, 9, 1, 2, 2, 8, 3, 7), 2)
	checkReach(t, within, marks(0, 9, 2, 8, 3, 7), 0)
	checkReach(t, within, marks(0, 3, 1, 9, 2, 5, 3, 4), 4)
	checkReach(t, joint(list(0, 1, 2, 3, 4, 5, 6), list(2, 3, 4, 5, 6, 7, 8)), marks(0, 1, 1, 2, 2, 3, 3, 4, 4, 5, 5, 6, 6, 7, 7, 8, 8, 9), 4)
}

// P2: no Old is the same as an empty one.
func TestReachOfEmptyOld(t *testing.T) {
	for _, old := range [][]int{nil, {}, make([]int, 0, 3)} {
		checkReach(t, joint(old, list(1, 2, 3)), marks(1, 5, 2, 7, 3, 4), 5)
	}
}

// P1, P3: of very many marks, and again and again the same.
func TestReachOfManyMarks(t *testing.T) {
	great := make([]Mark, 1000000)
	for i := range great {
		great[i] = Mark{Id: i % 1000, Index: i}
	}
	c := joint(list(0, 1, 2), list(2, 3, 4, 5))
	for range 5 {
		checkReach(t, c, great, 999001) // the last marks are 999000 and the Id
	}
	few := marks(0, 9, 1, 8, 2, 2, 3, 7, 4, 6, 5, 5)
	for range 1000 {
		checkReach(t, c, few, 5)
	}
}

// P1, P8: whatever configuration is handed in, every call ends.
func TestWhateverIsGiven(t *testing.T) {
	great := make([]int, 20000)
	var l []Mark
	for i := range great {
		great[i] = i * 7919 % 20011
		l = append(l, Mark{great[i], i * 31 % 777})
	}
	lists := [][]int{nil, {}, {math.MinInt, math.MaxInt}, {math.MaxInt, -1, 9, 9}, make([]int, 8), {3, 2, 1}, great}
	for _, old := range lists {
		for _, now := range lists {
			c := joint(old, now)
			Reach(c, nil)
			Reach(c, l)
			v := New(c)
			for _, id := range list(math.MinInt, -1, 0, 3, 9, 19999, math.MaxInt) {
				v.Add(id, id%2 == 1)
				v.Won()
				v.Lost()
			}
		}
	}
}
