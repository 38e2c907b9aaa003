package conf

import (
	"slices"
	"testing"

	"synodal/api"
)

const mark = 4711 // stands in the spare room of all that is handed in

// roomy is a list with marks in its spare room.
func roomy(ids ...int) []int {
	whole := append(slices.Clone(ids), mark, mark, mark)
	return whole[:len(ids)]
}

func roomyConfig(old, now []int) api.Config {
	return api.Config{Old: roomy(old...), New: roomy(now...)}
}

// whole is a list with its spare room.
func whole(l []int) []int { return l[:cap(l)] }

// scrawl writes over a list and its spare room.
func scrawl(lists ...[]int) {
	for _, l := range lists {
		for i := range whole(l) {
			whole(l)[i] = -33
		}
	}
}

// watched is lists that are handed in, and what stood in them and in their spare room ahead of that.
type watched struct {
	lists, were [][]int
}

func watch(lists ...[]int) watched {
	w := watched{lists: lists}
	for _, l := range lists {
		w.were = append(w.were, slices.Clone(whole(l)))
	}
	return w
}

func (w watched) check(t *testing.T, what string) {
	t.Helper()
	for i, l := range w.lists {
		if !slices.Equal(whole(l), w.were[i]) {
			t.Errorf("%s: list %d with its spare room is %v, not %v", what, i, whole(l), w.were[i])
		}
	}
}

var olds = [][]int{{}, {1}, {0, 1, 2}, {1, 3}, {5, 4, 4}}
var news = [][]int{{}, {1}, {2, 3, 4}, {0, 3, 5}, {0, 1, 2, 3, 4, 5, 6}, {3, 2, 2}}

// P2: what is handed in, its spare room too, stands as it did behind every call, also behind those that answer an error.
func TestHandedInStays(t *testing.T) {
	for _, old := range olds {
		for _, now := range news {
			c, d, l := roomyConfig(old, now), roomyConfig(now, old), roomy(now...)
			w := watch(c.Old, c.New, d.Old, d.New, l)
			Check(c)
			w.check(t, "Check")
			Members(c)
			w.check(t, "Members")
			Joint(c)
			In(c, 3)
			Same(c, d)
			w.check(t, "Joint, In, Same")
			Quorum(c, l)
			Quorum(d, roomy(3, 1, 1, 2)[:4])
			w.check(t, "Quorum")
			Enter(c, l)
			Enter(api.Config{New: c.New}, l)
			Enter(api.Config{New: d.New}, l)
			w.check(t, "Enter")
			Leave(c)
			Leave(d)
			w.check(t, "Leave")
		}
	}
}

// P2: of a yes that does not rise and has some more than once, too.
func TestYesStays(t *testing.T) {
	yes := roomy(8, 3, 3, 1, 0, -5, 1)
	w := watch(yes)
	if !Quorum(plain(1, 2, 3), yes) {
		t.Error("no quorum")
	}
	w.check(t, "Quorum")
}

// P2: what Members answers is new memory, its spare room too: neither hears of what the other is told.
func TestMembersIsNew(t *testing.T) {
	for _, old := range olds {
		for _, now := range news {
			c := roomyConfig(old, now)
			w := watch(c.Old, c.New)
			got := Members(c)
			was := slices.Clone(whole(got))
			again := Members(c)
			scrawl(again)
			w.check(t, "an answer that is written over")
			if !slices.Equal(whole(got), was) {
				t.Errorf("%v, %v: two answers share memory", old, now)
			}
			scrawl(c.Old, c.New)
			if !slices.Equal(whole(got), was) {
				t.Errorf("%v, %v: the answer keeps what was handed in", old, now)
			}
			if slices.Contains(whole(got), mark) {
				t.Errorf("%v, %v: the answer's spare room has what was handed in: %v", old, now, whole(got))
			}
		}
	}
}

// checkNew holds a configuration that was answered against what it was made of, and its lists against each other.
func checkNew(t *testing.T, what string, got, want api.Config, handed ...[]int) {
	t.Helper()
	w := watch(handed...)
	if slices.Contains(whole(got.Old), mark) || slices.Contains(whole(got.New), mark) {
		t.Errorf("%s: the answer's spare room has what was handed in", what)
	}
	old, now := slices.Clone(whole(got.Old)), slices.Clone(whole(got.New))
	scrawl(got.Old)
	if !slices.Equal(whole(got.New), now) {
		t.Errorf("%s: Old and New share memory", what)
	}
	copy(whole(got.Old), old)
	scrawl(got.New)
	if !slices.Equal(whole(got.Old), old) {
		t.Errorf("%s: New and Old share memory", what)
	}
	copy(whole(got.New), now)
	scrawl(handed...)
	if !Same(got, want) || !slices.Equal(whole(got.Old), old) || !slices.Equal(whole(got.New), now) {
		t.Errorf("%s: the answer keeps what was handed in: %v, not %v", what, got, want)
	}
	for i, l := range handed {
		copy(whole(l), w.were[i])
	}
	scrawl(got.Old, got.New)
	w.check(t, what)
}

// P2: what Enter answers shares nothing with what was handed in, its lists nothing with each other, also where they are made of one list.
func TestEnterIsNew(t *testing.T) {
	all := roomy(0, 1, 2, 3)
	for _, x := range []struct{ from, to []int }{
		{roomy(1, 2), roomy(2, 3)},
		{roomy(0), roomy(0, 1, 2, 3, 4, 5, 6)},
		{roomy(0, 1, 2, 3, 4, 5, 6), roomy(8)},
		{all[:2], all},
		{all[:3], all[1:]},
		{all[:2], all[2:]},
	} {
		c := api.Config{New: x.from}
		want := joint(slices.Clone(x.from), slices.Clone(x.to))
		got, e := Enter(c, x.to)
		if e != api.OK || !Same(got, want) {
			t.Errorf("Enter(%v, %v): %v, %v", c, x.to, got, e)
		}
		again, _ := Enter(c, x.to)
		scrawl(again.Old, again.New)
		if !Same(got, want) {
			t.Errorf("Enter(%v, %v): two answers share memory", c, x.to)
		}
		checkNew(t, "Enter", got, want, x.from, x.to)
	}
}

// P2: what Leave answers shares nothing with the joint configuration.
func TestLeaveIsNew(t *testing.T) {
	for _, now := range [][]int{{0}, {2, 3}, {0, 1, 2, 3, 4, 5, 6}} {
		c := roomyConfig([]int{1, 2}, now)
		got, e := Leave(c)
		if e != api.OK || !Same(got, plain(now...)) {
			t.Errorf("Leave(%v): %v, %v", c, got, e)
		}
		again, _ := Leave(c)
		scrawl(again.New)
		checkNew(t, "Leave", got, plain(now...), c.Old, c.New)
	}
}
