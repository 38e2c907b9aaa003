package conf

import (
	"slices"
	"testing"

	"synodal/api"
)

// rows is every list of at most so many of these.
func rows(most int, of ...int) [][]int {
	all := [][]int{nil}
	last := all
	for range most {
		var next [][]int
		for _, l := range last {
			for _, id := range of {
				next = append(next, append(slices.Clone(l), id))
			}
		}
		all = append(all, next...)
		last = next
	}
	return all
}

// sets is every rising list of the first so many nodes, the one of none first.
func sets(count int) [][]int {
	var all [][]int
	for m := range 1 << count {
		var l []int
		for id := range count {
			if m>>id&1 == 1 {
				l = append(l, id)
			}
		}
		all = append(all, l)
	}
	return all
}

// flawOf is what P801 says of one list, but for ErrNone.
func flawOf(l []int) api.Errno {
	if len(l) > 7 {
		return api.ErrMany
	}
	for i := range l {
		if l[i] < 0 || l[i] > 8 || i > 0 && l[i] <= l[i-1] {
			return api.ErrArg
		}
	}
	return api.OK
}

func flawOfBoth(c api.Config) api.Errno {
	for _, l := range [][]int{c.Old, c.New} {
		if e := flawOf(l); e != api.OK {
			return e
		}
	}
	if len(c.New) == 0 {
		return api.ErrNone
	}
	return api.OK
}

// P801: Check of every pair of lists of at most four of these.
func TestEveryCheck(t *testing.T) {
	all := rows(4, -1, 0, 1, 8, 9)
	for _, old := range all {
		for _, now := range all {
			c := joint(old, now)
			if got, want := Check(c), flawOfBoth(c); got != want {
				t.Fatalf("Check(%v): %v, not %v", c, got, want)
			}
		}
	}
}

// P801: Check allows of all rising lists of nodes those of seven and fewer, as either list.
func TestEverySet(t *testing.T) {
	for _, l := range sets(9) {
		want := api.OK
		if len(l) > 7 {
			want = api.ErrMany
		}
		checkCheck(t, joint(l, list(4)), want)
		if len(l) == 0 {
			want = api.ErrNone
		}
		checkCheck(t, plain(l...), want)
	}
}

// P801: Members and In of every pair of sets: what stands in either, from the least on.
func TestEveryMember(t *testing.T) {
	for _, old := range sets(5) {
		for _, now := range sets(5) {
			c := joint(old, now)
			var want []int
			for id := range 5 {
				in := slices.Contains(old, id) || slices.Contains(now, id)
				if in {
					want = append(want, id)
				}
				if In(c, id) != in {
					t.Errorf("In(%v, %d): %v", c, id, !in)
				}
			}
			if got := Members(c); !slices.Equal(got, want) {
				t.Errorf("Members(%v): %v, not %v", c, got, want)
			}
		}
	}
}

// enough is what W2 says of one list: more than half of it.
func enough(l, yes []int) bool {
	have := 0
	for _, id := range l {
		for _, y := range yes {
			if y == id {
				have++
				break
			}
		}
	}
	return have > len(l)-have
}

// P802: Quorum of every configuration of five nodes, and every yes of six, in both orders, each of them twice.
func TestEveryQuorum(t *testing.T) {
	for _, old := range sets(5) {
		for _, now := range sets(5)[1:] {
			c := joint(old, now)
			for _, yes := range sets(6) {
				want := enough(now, yes) && (len(old) == 0 || enough(old, yes))
				checkQuorum(t, c, yes, want)
				twice := append(slices.Clone(yes), yes...)
				slices.Reverse(twice)
				checkQuorum(t, c, twice, want)
			}
		}
	}
}

// P803: Enter of every plain configuration of four nodes to every list of at most four of these; of every joint one.
func TestEveryEnter(t *testing.T) {
	lists := append(rows(4, 0, 1, 2, 3, 9), upTo(7), upTo(8))
	for _, from := range sets(4)[1:] {
		for _, to := range lists {
			e, want := flawOfBoth(plain(to...)), joint(from, to)
			if e == api.OK && slices.Equal(from, to) {
				e = api.ErrIs
			}
			if e != api.OK {
				want = api.Config{}
			}
			checkEnter(t, plain(from...), to, want, e)
			checkEnter(t, joint(list(3), from), to, api.Config{}, api.ErrBusy)
		}
	}
}

// P803: Leave of every configuration of four nodes.
func TestEveryLeave(t *testing.T) {
	for _, old := range sets(4) {
		for _, now := range sets(4)[1:] {
			got, e := Leave(joint(old, now))
			want, wantErr := plain(now...), api.OK
			if len(old) == 0 {
				want, wantErr = api.Config{}, api.ErrNone
			}
			if e != wantErr || len(got.Old) != 0 || !slices.Equal(got.New, want.New) {
				t.Errorf("Leave(%v, %v): %v, %v", old, now, got, e)
			}
		}
	}
}

// apart is every pair of sets of these that have no member in common.
func apart(all [][]int) [][2][]int {
	var out [][2][]int
	for _, p := range all {
		for _, q := range all {
			if !slices.ContainsFunc(p, func(id int) bool { return slices.Contains(q, id) }) {
				out = append(out, [2][]int{p, q})
			}
		}
	}
	return out
}

// checkMeet says of no two that are apart that they are quorums, the one of a, the other of b.
func checkMeet(t *testing.T, a, b api.Config, pairs [][2][]int) {
	t.Helper()
	for _, x := range pairs {
		if Quorum(a, x[0]) && Quorum(b, x[1]) {
			t.Fatalf("%v is a quorum of %v, %v of %v", x[0], a, x[1], b)
		}
	}
}

// P804: over all changes among five nodes: quorums of one configuration meet, and those of each and the next one. All members of a configuration are a quorum of it, so that this says something.
func TestQuorumsMeet(t *testing.T) {
	all := sets(5)
	pairs := apart(all)
	for _, from := range all[1:] {
		for _, to := range all[1:] {
			here := plain(from...)
			both, e := Enter(here, to)
			if e != api.OK {
				continue
			}
			there, e := Leave(both)
			if e != api.OK {
				t.Fatalf("Leave(%v): %v", both, e)
			}
			for _, c := range []api.Config{here, both, there} {
				checkMeet(t, c, c, pairs)
				checkQuorum(t, c, Members(c), true)
			}
			checkMeet(t, here, both, pairs)
			checkMeet(t, both, there, pairs)
		}
	}
}

// P804: the same of as many members as may be, and one less, where one comes, goes, or another takes its place.
func TestQuorumsOfManyMeet(t *testing.T) {
	pairs := apart(sets(8))
	for _, x := range []struct{ from, to []int }{
		{upTo(7), list(1, 2, 3, 4, 5, 6, 7)},
		{upTo(6), upTo(7)},
		{upTo(7), upTo(6)},
		{upTo(4), list(4, 5, 6, 7)},
	} {
		here := plain(x.from...)
		both, _ := Enter(here, x.to)
		there, e := Leave(both)
		if e != api.OK {
			t.Fatalf("from %v to %v: %v", x.from, x.to, e)
		}
		for _, c := range []api.Config{here, both, there} {
			checkMeet(t, c, c, pairs)
			checkQuorum(t, c, Members(c), true)
		}
		checkMeet(t, here, both, pairs)
		checkMeet(t, both, there, pairs)
	}
}

// P804 asks for the joint one: the quorums of the two plain ones need not meet.
func TestPlainQuorumsMayMiss(t *testing.T) {
	checkQuorum(t, plain(0, 1, 2), list(0, 1), true)
	checkQuorum(t, plain(2, 3, 4), list(3, 4), true)
	both, e := Enter(plain(0, 1, 2), list(2, 3, 4))
	if e != api.OK {
		t.Fatal(e)
	}
	checkQuorum(t, both, list(0, 1), false)
	checkQuorum(t, both, list(3, 4), false)
}
