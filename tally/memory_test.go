package tally

import (
	"slices"
	"testing"

	"synodal/api"
)

// spare stands in the spare room of all that is handed in.
const spare = 4711

// roomy is a list of ids with something in its spare room.
func roomy(ids ...int) []int { return append(slices.Clone(ids), spare, spare, spare)[:len(ids)] }

func roomyMarks(l ...Mark) []Mark {
	return append(slices.Clone(l), Mark{1, spare}, Mark{2, spare}, Mark{3, spare})[:len(l)]
}

// whole is a list with its spare room.
func whole[E any](l []E) []E { return l[:cap(l)] }

// scrawl writes over lists and their spare room.
func scrawl(with int, lists ...[]int) {
	for _, l := range lists {
		for i := range whole(l) {
			whole(l)[i] = with
		}
	}
}

// roomyConfigs are configurations with something in their spare room; Check refuses the last one.
func roomyConfigs() []api.Config {
	return []api.Config{
		{New: roomy(1, 2, 3)},
		{Old: roomy(0, 1, 2), New: roomy(2, 3, 4)},
		{Old: roomy(), New: roomy(3)},
		{Old: roomy(3, 1, 1), New: roomy(5, 4)},
	}
}

// checkStays holds a configuration with its spare room against what it is behind a use.
func checkStays(t *testing.T, c api.Config, use func()) {
	t.Helper()
	old, now := slices.Clone(whole(c.Old)), slices.Clone(whole(c.New))
	use()
	if !slices.Equal(whole(c.Old), old) || !slices.Equal(whole(c.New), now) {
		t.Errorf("the configuration with its spare room is %v, %v, not %v, %v", whole(c.Old), whole(c.New), old, now)
	}
}

// P2: Reach changes neither the configuration nor the marks, nor their spare room, and asks for nothing of that.
func TestReachChangesNothing(t *testing.T) {
	for _, c := range roomyConfigs() {
		l := roomyMarks(Mark{3, 9}, Mark{1, 4}, Mark{3, 2}, Mark{8, 7}, Mark{0, -5}, Mark{4, 9}, Mark{2, 6}, Mark{1, 5})
		were, got := slices.Clone(whole(l)), 0
		checkStays(t, c, func() { got = Reach(c, l) })
		if !slices.Equal(whole(l), were) {
			t.Errorf("the marks with their spare room are %v, not %v", whole(l), were)
		}
		tight := api.Config{Old: slices.Clip(slices.Clone(c.Old)), New: slices.Clip(slices.Clone(c.New))}
		if want := Reach(tight, slices.Clip(slices.Clone(l))); got != want {
			t.Errorf("%v: %d with spare room, %d without", c, got, want)
		}
	}
}

// P2: neither New nor a call on what it answers changes the configuration or its spare room.
func TestVotesChangeNothing(t *testing.T) {
	for _, c := range roomyConfigs() {
		checkStays(t, c, func() {
			v := New(c)
			for id := range api.MaxNodes {
				v.Add(id, id%2 == 0)
				v.Won()
				v.Lost()
			}
			v.Add(spare, true)
		})
	}
}

// P2: New keeps no memory of the configuration: whatever is written over it then, ahead of the first vote or behind it, the members are those that were.
func TestVotesKeepNothing(t *testing.T) {
	for _, with := range list(0, 2, 7, spare) {
		for ahead := range 6 {
			c := api.Config{Old: roomy(0, 1, 2), New: roomy(2, 3, 4)}
			v := New(c)
			for i, id := range list(0, 3, 2, 1, 4) {
				if i == ahead {
					scrawl(with, c.Old, c.New)
				}
				if v.Add(7, true) || v.Add(spare, true) {
					t.Fatalf("written over with %d: another one is a member", with)
				}
				if !v.Add(id, true) {
					t.Fatalf("written over with %d: %d is no member", with, id)
				}
				if v.Won() != (i >= 2) || v.Lost() {
					t.Fatalf("written over with %d: behind %d votes won %v, lost %v", with, i+1, v.Won(), v.Lost())
				}
			}
		}
	}
}

// P2: the same where both lists are pieces of one, each the other's spare room.
func TestVotesOfPieces(t *testing.T) {
	all := roomy(0, 1, 2, 3, 4)
	c := api.Config{Old: all[:3], New: all[2:]}
	v := New(c)
	c.Old = append(c.Old, 8)
	c.New[2] = 8
	if !slices.Equal(all, list(0, 1, 2, 8, 8)) {
		t.Fatalf("the pieces are of %v", all)
	}
	if v.Add(8, true) || !v.Add(3, false) || v.Lost() || !v.Add(4, false) {
		t.Error("the members are not those that were")
	}
	if !v.Lost() || v.Won() {
		t.Errorf("won %v, lost %v", v.Won(), v.Lost())
	}
}
