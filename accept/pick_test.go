package accept

import (
	"math"
	"slices"
	"testing"

	"synodal/api"
)

// checkPick holds what Pick answers against the text of the entry that it should pick; none, if that is empty.
func checkPick(t *testing.T, l []Vote, slot int, want string) {
	t.Helper()
	e, ok := Pick(l, slot)
	entry := api.Entry{}
	if want != "" {
		entry = data(want)
	}
	if ok != (want != "") || !same(e, entry) {
		t.Errorf("Pick(%+v, %d): %+v, %v, not %q", l, slot, e, ok, want)
	}
}

// P1302, P4: of no votes, and of votes for other slots alone, there is none.
func TestPickNone(t *testing.T) {
	for _, slot := range append([]int{1, 2, 3, 64}, farFroms...) {
		checkPick(t, nil, slot, "")
		checkPick(t, []Vote{}, slot, "")
		if slot != 2 {
			checkPick(t, votes(v(2, 5, "a")), slot, "")
			checkPick(t, votes(v(2, 5, "a"), v(2, 7, "b"), v(2, 0, "c")), slot, "")
		}
	}
	checkPick(t, votes(v(1, 5, "a"), v(3, 9, "b")), 2, "")
	checkPick(t, votes(v(5, 2, "a")), 2, "") // a ballot is no slot
}

// P1302: a vote for another slot counts for nothing, however great its ballot is, and wherever it stands.
func TestPickOfOtherSlots(t *testing.T) {
	l := votes(v(3, 99, "other"), v(2, 1, "mine"), v(1, 99, "another"))
	checkPick(t, l, 1, "another")
	checkPick(t, l, 2, "mine")
	checkPick(t, l, 3, "other")
	checkPick(t, l, 4, "")
}

// permuted are all orders of some votes.
func permuted(l []Vote) [][]Vote {
	if len(l) == 0 {
		return [][]Vote{nil}
	}
	var out [][]Vote
	for _, rest := range permuted(l[1:]) {
		for at := range len(rest) + 1 {
			out = append(out, slices.Insert(slices.Clone(rest), at, l[0]))
		}
	}
	return out
}

// P1302: of several ballots the greatest, in whatever order they stand.
func TestPickGreatest(t *testing.T) {
	for _, l := range permuted(votes(v(2, 1, "a"), v(2, 4, "bb"), v(2, 9, "ccc"), v(2, 8, "dddd"), v(1, 10, "eeeee"), v(3, 12, "ffffff"))) {
		checkPick(t, l, 2, "ccc")
		checkPick(t, l, 1, "eeeee")
		checkPick(t, l, 3, "ffffff")
	}
}

// P1302: of those with the same greatest ballot the first one that stands there.
func TestPickFirst(t *testing.T) {
	for _, l := range permuted(votes(v(2, 7, "a"), v(2, 7, "bb"), v(2, 7, "ccc"), v(2, 6, "dddd"), v(1, 7, "eeeee"))) {
		first := slices.IndexFunc(l, func(x Vote) bool { return x.Slot == 2 && x.Ballot == 7 })
		checkPick(t, l, 2, l[first].Entry.Data)
	}
	checkPick(t, votes(v(2, 7, "a"), v(2, 7, "a"), v(2, 7, "b")), 2, "a")
}

// P1302: a ballot below 1, which no acceptor tells, is one as any other; one at the end of int, too.
func TestPickOfAnyBallots(t *testing.T) {
	for _, ballot := range []int{math.MinInt, math.MinInt + 1, -1 << 40, -5, -1, 0, 1, 1 << 40, math.MaxInt - 1, math.MaxInt} {
		checkPick(t, votes(v(2, ballot, "a")), 2, "a")
		checkPick(t, votes(v(1, 3, "b"), v(2, ballot, "a"), v(2, ballot, "cc")), 2, "a")
	}
	for _, l := range permuted(votes(v(2, math.MinInt, "a"), v(2, -1, "bb"), v(2, 0, "ccc"))) {
		checkPick(t, l, 2, "ccc")
		checkPick(t, append(l, v(2, math.MaxInt, "dddd")), 2, "dddd")
		checkPick(t, append(votes(v(2, 1, "eeeee")), l...), 2, "eeeee")
	}
	for _, l := range permuted(votes(v(2, math.MinInt, "a"), v(2, math.MinInt+1, "bb"), v(2, -7, "ccc"))) {
		checkPick(t, l, 2, "ccc")
	}
	checkPick(t, votes(v(2, math.MinInt, "a"), v(2, math.MaxInt, "b")), 2, "b")
	checkPick(t, votes(v(2, math.MaxInt, "a"), v(2, math.MinInt, "b")), 2, "a")
}

// P1302: it asks for the votes of that slot, whether it is one of a log or not.
func TestPickOfAnySlots(t *testing.T) {
	for _, slot := range append([]int{1, 64}, farFroms...) {
		checkPick(t, votes(v(slot, 3, "a"), v(7, 9, "other"), v(slot, 4, "bb")), slot, "bb")
	}
}

// P1302, P4: an empty entry that is voted for is picked; that there is none is told by the false alone.
func TestPickEmpty(t *testing.T) {
	l := votes(v(2, 3, "a"), Vote{Slot: 2, Ballot: 4})
	if e, ok := Pick(l, 2); !ok || !same(e, api.Entry{}) {
		t.Errorf("%+v, %v", e, ok)
	}
	if e, ok := Pick(l, 1); ok || !same(e, api.Entry{}) {
		t.Errorf("none: %+v, %v", e, ok)
	}
}

// isPick says word by word whether the vote at i is the one: none for its slot has a greater ballot, and none ahead the same.
func isPick(l []Vote, i int) bool {
	for k, x := range l {
		if x.Slot == l[i].Slot && (x.Ballot > l[i].Ballot || k < i && x.Ballot == l[i].Ballot) {
			return false
		}
	}
	return true
}

// P1302: every row of up to five votes for two slots, with three ballots, against those words.
func TestEveryPick(t *testing.T) {
	texts := "abcde"
	var fill func(l []Vote)
	fill = func(l []Vote) {
		for slot := range 3 {
			want := ""
			for i, x := range l {
				if x.Slot == slot && isPick(l, i) {
					want += x.Entry.Data
				}
			}
			checkPick(t, l, slot, want)
		}
		if len(l) == len(texts) {
			return
		}
		for slot := range 2 {
			for ballot := range 3 {
				fill(append(slices.Clone(l), v(slot, ballot-1, texts[len(l):len(l)+1])))
			}
		}
	}
	fill(nil)
}
