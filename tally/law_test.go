package tally

import (
	"slices"
	"testing"

	"synodal/api"
)

// sets is every rising list of the first so many nodes, the one of none first.
func sets(count int) [][]int {
	out := [][]int{nil}
	for id := range count {
		for _, l := range slices.Clone(out) {
			out = append(out, append(slices.Clone(l), id))
		}
	}
	return out
}

// configs is every configuration of the first so many nodes, plain and joint.
func configs(count int) []api.Config {
	var out []api.Config
	for _, old := range sets(count) {
		for _, now := range sets(count)[1:] {
			out = append(out, joint(old, now))
		}
	}
	return out
}

// figures is every row of so many numbers from 0 up to below base.
func figures(count, base int) [][]int {
	out := [][]int{nil}
	for range count {
		var next [][]int
		for _, row := range out {
			for n := range base {
				next = append(next, append(slices.Clone(row), n))
			}
		}
		out = next
	}
	return out
}

// orders is every order of a list.
func orders(l []int) [][]int {
	if len(l) == 0 {
		return [][]int{nil}
	}
	var out [][]int
	for i, first := range l {
		for _, rest := range orders(slices.Concat(l[:i], l[i+1:])) {
			out = append(out, append(list(first), rest...))
		}
	}
	return out
}

// enough is what W2 says of those who are in.
func enough(c api.Config, in func(id int) bool) bool {
	for _, l := range [][]int{c.Old, c.New} {
		have := 0
		for _, id := range l {
			if in(id) {
				have++
			}
		}
		if len(l) > 0 && 2*have <= len(l) {
			return false
		}
	}
	return true
}

// reachOf is what P901 says, asked of each index from the top on.
func reachOf(c api.Config, l []Mark, top int) int {
	for index := top; index > 0; index-- {
		come := func(id int) bool {
			for _, m := range slices.Backward(l) {
				if m.Id == id {
					return m.Index >= index
				}
			}
			return false
		}
		if enough(c, come) {
			return index
		}
	}
	return 0
}

// P901: Reach of every configuration of four nodes, with no mark or any from -1 to 3 of each of them.
func TestEveryReach(t *testing.T) {
	rows := figures(4, 6)
	for _, c := range configs(4) {
		for _, row := range rows {
			var l []Mark
			for id, n := range row {
				if n < 5 {
					l = append(l, Mark{id, n - 1})
				}
			}
			checkReach(t, c, l, reachOf(c, l, 3))
		}
	}
}

// P901: Reach by every row of four marks of 0 to 2 of four nodes, members or not.
func TestEveryRowOfMarks(t *testing.T) {
	rows := figures(4, 12)
	for _, c := range []api.Config{plain(1), plain(0, 2), plain(0, 1, 2), joint(list(0), list(1, 2)), joint(list(0, 1), list(0, 1, 2))} {
		for _, row := range rows {
			var l []Mark
			for _, n := range row {
				l = append(l, Mark{n / 3, n % 3})
			}
			checkReach(t, c, l, reachOf(c, l, 2))
		}
	}
}

// How a node may stand; the first two are votes.
const (
	saidNo = iota
	saidYes
	saidNothing
)

// votesOf is Votes of a configuration with these votes of the first nodes.
func votesOf(t *testing.T, c api.Config, row []int) *Votes {
	t.Helper()
	v := New(c)
	for id, said := range row {
		if said == saidNothing {
			continue
		}
		in := slices.Contains(c.Old, id) || slices.Contains(c.New, id)
		if v.Add(id, said == saidYes) != in {
			t.Fatalf("%v: Add(%d): %v", c, id, !in)
		}
	}
	return v
}

// mayWin says whether any votes of those who have said nothing make a quorum.
func mayWin(c api.Config, row []int, rest [][]int) bool {
	return slices.ContainsFunc(rest, func(more []int) bool {
		return enough(c, func(id int) bool {
			return row[id] == saidYes || row[id] == saidNothing && more[id] == saidYes
		})
	})
}

// P901, P902: Won and Lost of every configuration of four nodes and all votes there can be of them: lost are those that no votes to come would win; none are both, and when all have voted they are one of both.
func TestEveryVote(t *testing.T) {
	rows, rest := figures(4, 3), figures(4, 2)
	for _, c := range configs(4) {
		for _, row := range rows {
			v := votesOf(t, c, row)
			won := enough(c, func(id int) bool { return row[id] == saidYes })
			lost := !mayWin(c, row, rest)
			if v.Won() != won || v.Lost() != lost {
				t.Fatalf("%v, %v: won %v, lost %v", c, row, v.Won(), v.Lost())
			}
			if v.Won() && v.Lost() {
				t.Fatalf("P902: %v, %v: both", c, row)
			}
			all := !slices.ContainsFunc(slices.Concat(c.Old, c.New), func(id int) bool { return row[id] == saidNothing })
			if all && !v.Won() && !v.Lost() {
				t.Fatalf("P902: %v, %v: neither", c, row)
			}
		}
	}
}

// P902: of as many members as may be, plain and joint, behind each vote of all votes there can be.
func TestNotBothOfMany(t *testing.T) {
	for _, c := range []api.Config{
		plain(0, 1, 2, 3, 4, 5, 6),
		plain(3, 4, 5, 6, 7, 8),
		joint(list(0, 1, 2, 3, 4, 5, 6), list(2, 3, 4, 5, 6, 7, 8)),
		joint(list(0, 1, 2, 3, 4), list(5, 6, 7, 8)),
		joint(list(4), list(0, 1, 2, 3, 4, 5, 6)),
	} {
		for m := range 1 << api.MaxNodes {
			v := New(c)
			for id := range api.MaxNodes {
				v.Add(id, m>>id&1 == 1)
				if v.Won() && v.Lost() {
					t.Fatalf("P902: %v, %b up to %d: both", c, m, id)
				}
			}
			if won := enough(c, func(id int) bool { return m>>id&1 == 1 }); v.Won() != won || v.Lost() == won {
				t.Fatalf("P902: %v, %b: won %v, lost %v", c, m, v.Won(), v.Lost())
			}
		}
	}
}

// P901: all orders of the same votes come to the same, also where Won and Lost are asked on the way; what is won or lost stays so.
func TestEveryOrder(t *testing.T) {
	rows := figures(5, 2)
	for _, c := range []api.Config{
		plain(0, 1, 2, 3, 4),
		plain(0, 1, 3, 4),
		joint(list(0, 1, 2), list(2, 3, 4)),
		joint(list(0, 1), list(2, 3, 4)),
		joint(list(0, 1, 2, 3), list(0, 1, 2, 3, 4)),
	} {
		for _, row := range rows {
			won := enough(c, func(id int) bool { return row[id] == saidYes })
			for _, order := range orders(list(0, 1, 2, 3, 4)) {
				v := New(c)
				for _, id := range order {
					wasWon, wasLost := v.Won(), v.Lost()
					v.Add(id, row[id] == saidYes)
					if wasWon && !v.Won() || wasLost && !v.Lost() {
						t.Fatalf("%v, %v, in order %v: undone at %d", c, row, order, id)
					}
				}
				if v.Won() != won || v.Lost() == won {
					t.Fatalf("%v, %v, in order %v: won %v, lost %v", c, row, order, v.Won(), v.Lost())
				}
			}
		}
	}
}
