package conf

import (
	"math"
	"slices"
	"testing"

	"synodal/api"
)

func list(ids ...int) []int { return ids }

func plain(now ...int) api.Config { return api.Config{New: now} }

func joint(old, now []int) api.Config { return api.Config{Old: old, New: now} }

// upTo is a list of so many members, from 0 on.
func upTo(count int) []int {
	out := make([]int, count)
	for i := range out {
		out[i] = i
	}
	return out
}

func checkCheck(t *testing.T, c api.Config, want api.Errno) {
	t.Helper()
	if got := Check(c); got != want {
		t.Errorf("Check(%v): %v, not %v", c, got, want)
	}
}

// P801: lists that may be, with as few and as many members as may be, as New alone and beside an Old.
func TestCheckAllows(t *testing.T) {
	for _, l := range [][]int{
		{0}, {8}, {4}, {0, 8}, {1, 2, 3}, {0, 1, 2, 3, 4, 5, 6}, {2, 3, 4, 5, 6, 7, 8}, {0, 2, 3, 5, 6, 7, 8},
	} {
		checkCheck(t, plain(l...), api.OK)
		checkCheck(t, joint(nil, l), api.OK)
		checkCheck(t, joint([]int{}, l), api.OK)
		checkCheck(t, joint(l, l), api.OK)
		checkCheck(t, joint(l, list(5)), api.OK)
		checkCheck(t, joint(list(5), l), api.OK)
	}
}

// P801: each list that may not be, as Old beside a New that may be, and as New alone and beside an Old.
func TestCheckRefuses(t *testing.T) {
	for _, x := range []struct {
		list []int
		want api.Errno
	}{
		{upTo(8), api.ErrMany}, // one too many, each of them as it should be
		{upTo(9), api.ErrMany},
		{upTo(100000), api.ErrMany},
		{make([]int, 8), api.ErrMany}, // too many, and not rising: ErrMany is named first
		{list(9, -1, 3, 3, 2, math.MaxInt, math.MinInt, 0), api.ErrMany},
		{make([]int, 7), api.ErrArg},
		{list(9), api.ErrArg},
		{list(-1), api.ErrArg},
		{list(math.MaxInt), api.ErrArg},
		{list(math.MinInt), api.ErrArg},
		{list(0, 9), api.ErrArg},
		{list(-1, 0), api.ErrArg},
		{list(math.MinInt, math.MaxInt), api.ErrArg},
		{list(0, 1, 2, 3, 4, 5, 9), api.ErrArg},
		{list(-1, 0, 1, 2, 3, 4, 5), api.ErrArg},
		{list(0, 0), api.ErrArg},
		{list(8, 8), api.ErrArg},
		{list(1, 2, 2), api.ErrArg},
		{list(1, 0), api.ErrArg},
		{list(8, 0), api.ErrArg},
		{list(1, 3, 2), api.ErrArg},
		{list(0, 1, 2, 3, 4, 6, 5), api.ErrArg},
		{list(5, 6, 0, 1), api.ErrArg},
		{list(3, 2, 4), api.ErrArg},
	} {
		checkCheck(t, plain(x.list...), x.want)
		checkCheck(t, joint(list(0, 1), x.list), x.want)
		checkCheck(t, joint(upTo(7), x.list), x.want)
		checkCheck(t, joint(x.list, list(0, 1)), x.want)
		checkCheck(t, joint(x.list, upTo(7)), x.want)
	}
}

// P801, P4: no New is ErrNone, whether it is nil or empty; a New that is not is never that.
func TestCheckNone(t *testing.T) {
	checkCheck(t, api.Config{}, api.ErrNone)
	for _, none := range [][]int{nil, {}, make([]int, 0, 5)} {
		checkCheck(t, joint(nil, none), api.ErrNone)
		checkCheck(t, joint([]int{}, none), api.ErrNone)
		checkCheck(t, joint(list(0), none), api.ErrNone)
		checkCheck(t, joint(upTo(7), none), api.ErrNone)
	}
}

// P801, P6: all that is wrong with Old comes ahead of all that is wrong with New.
func TestCheckOldFirst(t *testing.T) {
	for _, now := range [][]int{nil, {}, {9}, {1, 1}, upTo(8), make([]int, 8)} {
		checkCheck(t, joint(upTo(8), now), api.ErrMany)
		checkCheck(t, joint(make([]int, 8), now), api.ErrMany)
		checkCheck(t, joint(list(9), now), api.ErrArg)
		checkCheck(t, joint(list(-1), now), api.ErrArg)
		checkCheck(t, joint(list(2, 1), now), api.ErrArg)
		checkCheck(t, joint(list(1, 1), now), api.ErrArg)
	}
}

// P801: Joint hangs on Old alone.
func TestJoint(t *testing.T) {
	for _, now := range [][]int{nil, {}, {3}, {0, 1, 2}, {9, 9}} {
		for _, old := range [][]int{nil, {}, make([]int, 0, 3)} {
			if Joint(joint(old, now)) {
				t.Errorf("Joint(%v, %v)", old, now)
			}
		}
		for _, old := range [][]int{{0}, {3}, {0, 1, 2}, {9, 9}} {
			if !Joint(joint(old, now)) {
				t.Errorf("not Joint(%v, %v)", old, now)
			}
		}
	}
}

// P801: Members and In where the lists share all, some or no members, and where one or both are empty.
func TestMembers(t *testing.T) {
	for _, x := range []struct{ old, now, want []int }{
		{nil, nil, nil},
		{nil, list(0), list(0)},
		{list(8), nil, list(8)},
		{[]int{}, list(2, 4), list(2, 4)},
		{list(2, 4), []int{}, list(2, 4)},
		{nil, upTo(7), upTo(7)},
		{list(1, 2, 3), list(1, 2, 3), list(1, 2, 3)},
		{upTo(7), upTo(7), upTo(7)},
		{list(1, 3), list(0, 3, 5), list(0, 1, 3, 5)},
		{list(0, 3, 5), list(1, 3), list(0, 1, 3, 5)},
		{list(0, 1), list(1, 2), list(0, 1, 2)},
		{list(1), list(0, 1, 2), list(0, 1, 2)},
		{list(0, 2, 4, 6, 8), list(1, 3, 5, 7), upTo(9)},
		{upTo(7), list(2, 3, 4, 5, 6, 7, 8), upTo(9)},
		{list(5, 6), list(0, 1), list(0, 1, 5, 6)},
		{list(0, 1), list(5, 6), list(0, 1, 5, 6)},
	} {
		c := joint(x.old, x.now)
		if got := Members(c); !slices.Equal(got, x.want) {
			t.Errorf("Members(%v): %v, not %v", c, got, x.want)
		}
		for id := -2; id <= 11; id++ {
			if In(c, id) != slices.Contains(x.want, id) {
				t.Errorf("In(%v, %d): %v", c, id, In(c, id))
			}
		}
		if In(c, math.MaxInt) || In(c, math.MinInt) {
			t.Errorf("In(%v) of the ends of int", c)
		}
	}
}

// P801: Same asks for both lists, each in its own place; nil and empty are the same.
func TestSame(t *testing.T) {
	lists := [][]int{nil, {0}, {1}, {0, 1}, {0, 2}, {0, 1, 2}, {1, 2}, upTo(7)}
	for i, old := range lists {
		for j, now := range lists {
			a := joint(old, now)
			for k, otherOld := range lists {
				for l, otherNow := range lists {
					b := joint(slices.Clone(otherOld), slices.Clone(otherNow))
					if Same(a, b) != (i == k && j == l) {
						t.Errorf("Same(%v, %v): %v", a, b, Same(a, b))
					}
				}
			}
		}
	}
	empty := make([]int, 0, 4)
	for _, a := range []api.Config{{}, joint([]int{}, nil), joint(nil, []int{}), joint(empty, empty)} {
		for _, b := range []api.Config{{}, joint([]int{}, nil), joint(nil, []int{}), joint(empty, empty)} {
			if !Same(a, b) {
				t.Errorf("not Same(%#v, %#v)", a, b)
			}
		}
	}
	if !Same(joint(nil, list(1)), joint([]int{}, list(1))) || !Same(joint(list(1), nil), joint(list(1), []int{})) {
		t.Error("nil and empty are not the same beside a list")
	}
}

func checkQuorum(t *testing.T, c api.Config, yes []int, want bool) {
	t.Helper()
	if got := Quorum(c, yes); got != want {
		t.Errorf("Quorum(%v, %v): %v, not %v", c, yes, got, want)
	}
}

// P802: the example, and a front of the members with one less than a quorum, exactly half, and one more.
func TestQuorum(t *testing.T) {
	checkQuorum(t, plain(1, 2, 3), list(1, 3), true)
	for count := 1; count <= api.MaxMembers; count++ {
		c := plain(upTo(count)...)
		for n := range count + 1 {
			checkQuorum(t, c, upTo(n), 2*n > count)
			checkQuorum(t, c, upTo(count)[count-n:], 2*n > count)
		}
	}
	checkQuorum(t, plain(1, 2), list(1), false)
	checkQuorum(t, plain(1, 2), list(2), false)
	checkQuorum(t, plain(1, 2, 5, 8), list(1, 8), false)
	checkQuorum(t, plain(1, 2, 5, 8), list(1, 5, 8), true)
	checkQuorum(t, plain(5), list(5), true)
	checkQuorum(t, plain(5), list(4), false)
	checkQuorum(t, plain(0), list(0), true)
}

// P802: none is no quorum, nil or empty.
func TestQuorumOfNone(t *testing.T) {
	for _, none := range [][]int{nil, {}} {
		checkQuorum(t, plain(0), none, false)
		checkQuorum(t, plain(upTo(7)...), none, false)
		checkQuorum(t, joint(list(0), list(1)), none, false)
	}
}

// P802: however often, whoever else, in any order.
func TestQuorumOfAnyList(t *testing.T) {
	c := plain(1, 2, 3)
	checkQuorum(t, c, list(1, 1, 1), false)
	checkQuorum(t, c, list(3, 3, 3, 3, 3, 3, 3), false)
	checkQuorum(t, c, list(1, 4, 5), false)
	checkQuorum(t, c, list(0, 4, 5, 6, 7, 8), false)
	checkQuorum(t, c, list(3, 1), true)
	checkQuorum(t, c, list(3, 3, 1, 3), true)
	checkQuorum(t, c, list(8, 3, 0, 2), true)
	checkQuorum(t, c, list(3, 2, 1), true)
	checkQuorum(t, c, list(math.MaxInt, 2, -1, 3, math.MinInt, 9), true)
	checkQuorum(t, c, list(math.MaxInt, 2, -1, -3, math.MinInt, 9, 1<<32+1, 1<<32+3), false)
	many := make([]int, 1000000)
	for i := range many {
		many[i] = i%2*4 + i/2%3*100 + 1 // 1, 5, 101, 105, 201, 205
	}
	checkQuorum(t, c, many, false)
	many[777777] = 3
	checkQuorum(t, c, many, true)
}

// P802: of a joint one both lists must have one of their own.
func TestQuorumOfJoint(t *testing.T) {
	c := joint(list(0, 1, 2), list(2, 3, 4))
	checkQuorum(t, c, list(0, 2, 3), true)
	checkQuorum(t, c, list(0, 1, 3, 4), true)
	checkQuorum(t, c, list(2, 3, 4), false)
	checkQuorum(t, c, list(0, 1, 2), false)
	checkQuorum(t, c, list(0, 3, 2, 3, 8), true)
	checkQuorum(t, c, list(0, 3, 4), false)
	checkQuorum(t, c, list(0, 1, 3), false)
	checkQuorum(t, c, list(2), false)
	checkQuorum(t, joint(list(0), list(1)), list(0), false)
	checkQuorum(t, joint(list(0), list(1)), list(1), false)
	checkQuorum(t, joint(list(0), list(1)), list(1, 0), true)
	checkQuorum(t, joint(list(0, 1), list(0)), list(0), false)
	checkQuorum(t, joint(list(0), list(0, 1)), list(0), false)
	checkQuorum(t, joint(list(1, 2), list(1, 2)), list(1), false)
	checkQuorum(t, joint(list(1, 2), list(1, 2)), list(2, 1), true)
	checkQuorum(t, joint(list(0), upTo(7)), list(1, 2, 3, 4, 5, 6), false) // more than half of all of them
	checkQuorum(t, joint(upTo(7), list(0)), list(1, 2, 3, 4, 5, 6), false)
	checkQuorum(t, joint([]int{}, list(1, 2, 3)), list(1, 2), true)
}

func checkEnter(t *testing.T, c api.Config, to []int, want api.Config, wantErr api.Errno) {
	t.Helper()
	got, e := Enter(c, to)
	if e != wantErr || !slices.Equal(got.Old, want.Old) || !slices.Equal(got.New, want.New) {
		t.Errorf("Enter(%v, %v): %v, %v, not %v, %v", c, to, got, e, want, wantErr)
	}
}

// P803: the joint configuration has what c had as Old, and what it goes to as New.
func TestEnter(t *testing.T) {
	for _, x := range []struct{ from, to []int }{
		{list(1, 2), list(2, 3)},
		{list(1, 2, 3), list(1, 2)},
		{list(1, 2, 3), list(1, 3)},
		{list(1, 2), list(1, 2, 3)},
		{list(0), list(8)},
		{list(8), list(0)},
		{upTo(7), list(2, 3, 4, 5, 6, 7, 8)},
		{upTo(7), upTo(6)},
		{list(0), upTo(7)},
	} {
		checkEnter(t, plain(x.from...), x.to, joint(x.from, x.to), api.OK)
		checkEnter(t, joint([]int{}, x.from), x.to, joint(x.from, x.to), api.OK)
	}
}

// P803, P4, P6: each error in its order, and nothing beside it.
func TestEnterRefuses(t *testing.T) {
	here, both := plain(1, 2), joint(list(1), list(1, 2))
	for _, x := range []struct {
		to   []int
		want api.Errno // of a plain one
	}{
		{nil, api.ErrNone},
		{[]int{}, api.ErrNone},
		{upTo(8), api.ErrMany},
		{make([]int, 8), api.ErrMany},
		{list(9), api.ErrArg},
		{list(-1), api.ErrArg},
		{list(math.MaxInt), api.ErrArg},
		{list(math.MinInt), api.ErrArg},
		{list(3, 2), api.ErrArg},
		{list(2, 1), api.ErrArg},
		{list(2, 2), api.ErrArg},
		{list(1, 2), api.ErrIs},
		{list(1), api.OK},
		{list(2), api.OK},
		{list(1, 2, 3), api.OK},
	} {
		checkEnter(t, both, x.to, api.Config{}, api.ErrBusy)
		if x.want != api.OK {
			checkEnter(t, here, x.to, api.Config{}, x.want)
		} else {
			checkEnter(t, here, x.to, joint(list(1, 2), x.to), api.OK)
		}
	}
	checkEnter(t, joint(list(1, 2), list(3)), list(1, 2), api.Config{}, api.ErrBusy)
	checkEnter(t, joint(list(1, 2), list(3)), list(3), api.Config{}, api.ErrBusy)
	checkEnter(t, plain(0), list(0), api.Config{}, api.ErrIs)
	checkEnter(t, plain(upTo(7)...), upTo(7), api.Config{}, api.ErrIs)
}

// P803: Leave goes to New, whatever Old is; of a plain one there is nothing to leave.
func TestLeave(t *testing.T) {
	for _, old := range [][]int{{0}, {1, 2}, {2, 3}, upTo(7)} {
		for _, now := range [][]int{{0}, {2, 3}, {8}, upTo(7)} {
			got, e := Leave(joint(old, now))
			if e != api.OK || len(got.Old) != 0 || !slices.Equal(got.New, now) {
				t.Errorf("Leave(%v, %v): %v, %v", old, now, got, e)
			}
		}
	}
	for _, c := range []api.Config{plain(1, 2), plain(0), joint([]int{}, list(1)), {}, plain(upTo(7)...)} {
		if got, e := Leave(c); e != api.ErrNone || len(got.Old) != 0 || len(got.New) != 0 {
			t.Errorf("Leave(%v): %v, %v", c, got, e)
		}
	}
}

// P803: what is entered may be, is joint, and is left for what it was entered to; from there it may go back.
func TestThereAndBack(t *testing.T) {
	here := plain(0, 1, 2)
	row := [][]int{{1, 2, 3}, {3}, {0, 8}, upTo(7), {2, 3, 4, 5, 6, 7, 8}, {0, 1, 2}}
	for _, to := range row {
		both, e := Enter(here, to)
		if e != api.OK || Check(both) != api.OK || !Joint(both) {
			t.Fatalf("Enter(%v, %v): %v, %v", here, to, both, e)
		}
		next, e := Leave(both)
		if e != api.OK || Check(next) != api.OK || Joint(next) || !Same(next, plain(to...)) {
			t.Fatalf("Leave(%v): %v, %v", both, next, e)
		}
		here = next
	}
	if !Same(here, plain(0, 1, 2)) {
		t.Errorf("back at %v", here)
	}
}

// P1: whatever stands in the lists, and however much, every call ends.
func TestWhateverIsGiven(t *testing.T) {
	great := make([]int, 300000)
	for i := range great {
		great[i] = i * 7919 % 300007
	}
	lists := [][]int{nil, {math.MinInt, math.MaxInt}, {math.MaxInt, math.MinInt, -1, 9, 9}, make([]int, 8), great}
	for _, old := range lists {
		for _, now := range lists {
			c := joint(old, now)
			Check(c)
			Members(c)
			Joint(c)
			In(c, -1)
			Same(c, c)
			Leave(c)
			for _, yes := range lists {
				Quorum(c, yes)
				Enter(c, yes)
			}
		}
	}
}
