package hist

import (
	"math"
	"testing"

	"synodal/api"
	"synodal/conf"
)

func plain(now ...int) api.Config { return api.Config{New: now} }

func joint(old, now []int) api.Config { return api.Config{Old: old, New: now} }

func change(members ...int) api.Entry {
	return api.Entry{Kind: api.KConf, Client: 1, Seq: 1, Members: members}
}

func done(members ...int) api.Entry { return api.Entry{Kind: api.KDone, Members: members} }

// checkConfig asks a log that is made of the entries by Append, and one by Put, for what counts.
func checkConfig(t *testing.T, what string, c api.Config, l []api.Entry, want api.Config) {
	t.Helper()
	for _, base := range list(0, 9) {
		appended, put := New(base), New(base)
		checkAppend(t, appended, 3, l, base+len(l), api.OK)
		checkPut(t, put, base, 1, ofTerm(len(l), 3), l, base+len(l), api.OK)
		for _, h := range []*Hist{appended, put} {
			for range 2 { // it is asked, not kept
				if got := h.Config(c); !conf.Same(got, want) {
					t.Errorf("%s, behind %d: %v, not %v", what, base, got, want)
				}
			}
		}
	}
}

// P1004: without entries what it began with counts.
func TestConfigOfEmpty(t *testing.T) {
	for _, c := range []api.Config{plain(0), plain(8), plain(1, 2, 3), plain(0, 1, 2, 3, 4, 5, 6), {Old: []int{}, New: list(4)}} {
		checkConfig(t, "none", c, nil, c)
	}
	for _, base := range bases {
		if got := New(base).Config(plain(1, 2)); !conf.Same(got, plain(1, 2)) {
			t.Errorf("behind %d: %v", base, got)
		}
	}
}

// P1004: kinds that change no members, whatever their fields say, where c is plain and where a change has begun.
func TestConfigPassesOthersOver(t *testing.T) {
	for _, kind := range list(api.KNone, api.KData, api.KMigrate, 5, 6, -1, math.MaxInt, math.MinInt) {
		e := api.Entry{Kind: kind, Client: 1, Seq: 1, Data: "x", Members: list(4, 5), To: api.Chain}
		checkConfig(t, "plain", plain(1, 2), []api.Entry{e, e}, plain(1, 2))
		checkConfig(t, "joint", plain(1, 2), []api.Entry{e, change(2, 3), e, e}, joint(list(1, 2), list(2, 3)))
		checkConfig(t, "left", plain(1, 2), []api.Entry{change(2, 3), e, done(), e}, plain(2, 3))
	}
}

// P1004: members that may be entered.
func TestConfigEnters(t *testing.T) {
	for _, to := range [][]int{{0}, {8}, {1, 2}, {1, 2, 3, 4}, {1, 3}, {4, 5, 6}, {0, 1, 2, 3, 4, 5, 6}, {2, 3, 4, 5, 6, 7, 8}} {
		checkConfig(t, "entered", plain(1, 2, 3), []api.Entry{change(to...)}, joint(list(1, 2, 3), to))
		checkConfig(t, "and left", plain(1, 2, 3), []api.Entry{change(to...), done(to...)}, plain(to...))
	}
}

// P1004: members that may not be entered, or are those that count, count for nothing; what comes behind counts as ever.
func TestConfigRefuses(t *testing.T) {
	for _, to := range [][]int{
		nil, {}, {1, 2, 3}, {9}, {-1}, {2, 2}, {3, 2}, {0, 1, 9}, {0, 1, 2, 3, 4, 5, 6, 7}, make([]int, 1000), {math.MinInt}, {math.MaxInt}, {1, 3, 2},
	} {
		e := change(to...)
		checkConfig(t, "refused", plain(1, 2, 3), []api.Entry{e}, plain(1, 2, 3))
		checkConfig(t, "twice", plain(1, 2, 3), []api.Entry{e, e, done(to...)}, plain(1, 2, 3))
		checkConfig(t, "another behind it", plain(1, 2, 3), []api.Entry{e, change(4)}, joint(list(1, 2, 3), list(4)))
		checkConfig(t, "while joint", plain(1, 2, 3), []api.Entry{change(4), e}, joint(list(1, 2, 3), list(4)))
	}
}

// P1004: while joint no other members are entered, neither others nor the elder or the newer ones.
func TestConfigWhileJoint(t *testing.T) {
	for _, to := range [][]int{{5}, {0, 1}, {1, 2}, {0, 1, 2}} {
		checkConfig(t, "while joint", plain(0, 1), []api.Entry{change(1, 2), change(to...)}, joint(list(0, 1), list(1, 2)))
		checkConfig(t, "and left", plain(0, 1), []api.Entry{change(1, 2), change(to...), done(to...)}, plain(1, 2))
	}
}

// P1004: a KDone leaves what is joint for its newer members, whatever it says itself; while plain it does nothing.
func TestConfigLeaves(t *testing.T) {
	for _, said := range [][]int{nil, {}, {1, 2}, {0, 1}, {7}, {9, 9, -1}} {
		e := done(said...)
		checkConfig(t, "plain", plain(0, 1), []api.Entry{e}, plain(0, 1))
		checkConfig(t, "plain, twice", plain(0, 1), []api.Entry{e, e}, plain(0, 1))
		checkConfig(t, "left", plain(0, 1), []api.Entry{change(1, 2), e}, plain(1, 2))
		checkConfig(t, "left once", plain(0, 1), []api.Entry{change(1, 2), e, e}, plain(1, 2))
		checkConfig(t, "too early", plain(0, 1), []api.Entry{e, change(1, 2)}, joint(list(0, 1), list(1, 2)))
	}
}

// P1004: changes one behind the other; each begins with the members that the one ahead left.
func TestConfigOfMany(t *testing.T) {
	l := []api.Entry{change(1, 2), done(), change(1, 2), change(3), change(4), done(), done(), change(0, 1)}
	wants := []api.Config{
		plain(0, 1), joint(list(0, 1), list(1, 2)), plain(1, 2), plain(1, 2), joint(list(1, 2), list(3)),
		joint(list(1, 2), list(3)), plain(3), plain(3), joint(list(3), list(0, 1)),
	}
	for count, want := range wants {
		checkConfig(t, "a front", plain(0, 1), l[:count], want)
	}
	checkConfig(t, "there and back", plain(0, 1), []api.Entry{change(2), done(), change(0, 1), done()}, plain(0, 1))
	checkConfig(t, "there and back, joint", plain(0, 1), []api.Entry{change(2), done(), change(0, 1)}, joint(list(2), list(0, 1)))
}

// P1004: a full log of changes.
func TestConfigOfFull(t *testing.T) {
	h := New(0)
	for i := range api.MaxLog / 2 {
		checkAppend(t, h, 1, []api.Entry{change(i % 9), done()}, 2*i+2, api.OK)
	}
	if got := h.Config(plain(1, 2)); !conf.Same(got, plain(31%9)) {
		t.Errorf("Config: %v", got)
	}
}

// P1004: what Put takes away counts no more.
func TestConfigBehindPut(t *testing.T) {
	h := New(0)
	checkAppend(t, h, 1, []api.Entry{change(1, 2), done()}, 2, api.OK)
	checkAppend(t, h, 2, []api.Entry{change(3)}, 3, api.OK)
	for i, x := range []struct {
		index int
		e     api.Entry
		want  api.Config
	}{
		{2, change(4), joint(list(1, 2), list(4))},
		{1, change(5), joint(list(0, 1), list(1, 2))},
		{1, done(), plain(1, 2)},
		{0, done(), plain(0, 1)},
		{0, change(6), joint(list(0, 1), list(6))},
	} {
		checkPut(t, h, x.index, h.Term(x.index), list(3+i), []api.Entry{x.e}, x.index+1, api.OK)
		if got := h.Config(plain(0, 1)); !conf.Same(got, x.want) {
			t.Errorf("%+v behind %d: %v, not %v", x.e, x.index, got, x.want)
		}
	}
}

// P1, P8: of configurations that may not be Config ends.
func TestConfigOfWrong(t *testing.T) {
	h := New(0)
	checkAppend(t, h, 1, append(allKinds(), change(1, 2), change(1, 3), done(), change(4), done()), 15, api.OK)
	for _, old := range [][]int{nil, {1}, {2, 1}, make([]int, 1000), {math.MinInt, math.MaxInt}} {
		for _, now := range [][]int{nil, {1}, {2, 1}, make([]int, 1000), {math.MinInt, math.MaxInt}} {
			h.Config(joint(old, now))
			New(0).Config(joint(old, now))
		}
	}
}
