package accept

import (
	"errors"
	"math"
	"reflect"
	"slices"
	"testing"

	"synodal/api"
)

// data is an entry of data; it has the text's length in its other fields, too.
func data(s string) api.Entry {
	n := len(s)
	return api.Entry{Kind: api.KData, Client: n, Seq: n + 1, Data: s, Members: list(n, n+2), To: n + 3}
}

func list(numbers ...int) []int { return numbers }

// v is a vote for an entry of data.
func v(slot, ballot int, s string) Vote { return Vote{Slot: slot, Ballot: ballot, Entry: data(s)} }

func votes(l ...Vote) []Vote { return l }

// same says whether two entries are the same; of lists nil and empty are.
func same(a, b api.Entry) bool {
	if !slices.Equal(a.Members, b.Members) {
		return false
	}
	a.Members, b.Members = nil, nil
	return reflect.DeepEqual(a, b)
}

func sameVotes(a, b []Vote) bool {
	return slices.EqualFunc(a, b, func(x, y Vote) bool {
		return x.Slot == y.Slot && x.Ballot == y.Ballot && same(x.Entry, y.Entry)
	})
}

// checkPrepare holds what Prepare answers against the votes that it should tell, or an error.
func checkPrepare(t *testing.T, a *Acceptor, ballot, from int, want api.Errno, told ...Vote) {
	t.Helper()
	if l, e := a.Prepare(ballot, from); e != want || !sameVotes(l, told) {
		t.Errorf("Prepare(%d, %d): %+v, %v, not %+v, %v", ballot, from, l, e, told, want)
	}
}

// checkAccept accepts an entry of data.
func checkAccept(t *testing.T, a *Acceptor, ballot, slot int, s string, want api.Errno) {
	t.Helper()
	if e := a.Accept(ballot, slot, data(s)); e != want {
		t.Errorf("Accept(%d, %d, %s): %v, not %v", ballot, slot, s, e, want)
	}
}

// checkIs holds what an acceptor tells of itself against what it should be.
func checkIs(t *testing.T, what string, a *Acceptor, promised int, all ...Vote) {
	t.Helper()
	if a.Promised() != promised {
		t.Errorf("%s: %d is promised, not %d", what, a.Promised(), promised)
	}
	if l := a.Votes(); !sameVotes(l, all) {
		t.Errorf("%s: the votes are %+v, not %+v", what, l, all)
	}
}

// farFroms are slots that somebody may ask from, though there are none.
var farFroms = []int{math.MinInt, math.MinInt + 1, -1 << 40, -65, -1, 0, 65, 66, 1 << 32, 1<<32 + 1, 1 << 40, math.MaxInt - 1, math.MaxInt}

// P1301: at first 0 is promised, and there is no vote, wherever one asks from.
func TestNew(t *testing.T) {
	checkIs(t, "new", New(), 0)
	for _, from := range append([]int{1, 2, 63, 64}, farFroms...) {
		a := New()
		checkPrepare(t, a, 1, from, api.OK)
		checkIs(t, "prepared", a, 1)
	}
}

// P1301: the document's example.
func TestExample(t *testing.T) {
	a := New()
	checkPrepare(t, a, 5, 1, api.OK)
	checkAccept(t, a, 4, 1, "x", api.ErrStale)
	checkIs(t, "behind it", a, 5)
}

// P1301: a ballot is from 1 on; whatever is below is refused, by a new acceptor and by one that has promised.
func TestBallotsThatAreNone(t *testing.T) {
	for _, ballot := range []int{0, -1, -2, -5, -1 << 32, -1<<32 + 5, -1 << 40, math.MinInt + 1, math.MinInt} {
		a := New()
		checkPrepare(t, a, ballot, 1, api.ErrArg)
		checkAccept(t, a, ballot, 1, "x", api.ErrArg)
		checkIs(t, "new", a, 0)
		checkAccept(t, a, 5, 1, "y", api.OK)
		checkPrepare(t, a, ballot, 1, api.ErrArg)
		checkAccept(t, a, ballot, 1, "x", api.ErrArg)
		checkIs(t, "promised", a, 5, v(1, 5, "y"))
	}
}

// P1301: any ballot from 1 on may be the first, by Prepare and by Accept; from then on those below are refused, that one and those above are not.
func TestBallots(t *testing.T) {
	for _, ballot := range []int{1, 2, 3, 64, 65, 1<<31 - 1, 1 << 31, 1 << 32, 1<<40 - 1, 1 << 40, math.MaxInt - 1, math.MaxInt} {
		prepared, accepted := New(), New()
		checkPrepare(t, prepared, ballot, 1, api.OK)
		checkIs(t, "prepared", prepared, ballot)
		checkAccept(t, accepted, ballot, 7, "x", api.OK)
		checkIs(t, "accepted", accepted, ballot, v(7, ballot, "x"))
		checkAround(t, prepared, ballot)
		checkAround(t, accepted, ballot, v(7, ballot, "x"))
	}
}

// checkAround asks an acceptor for ballots below, at and above what it has promised; it has no vote for slot 3, nor for those ahead.
func checkAround(t *testing.T, a *Acceptor, ballot int, all ...Vote) {
	t.Helper()
	for _, below := range []int{ballot - 1, ballot / 2, 1} {
		if below < 1 || below == ballot {
			continue
		}
		checkPrepare(t, a, below, 1, api.ErrStale)
		checkAccept(t, a, below, 3, "below", api.ErrStale)
		checkIs(t, "below", a, ballot, all...)
	}
	checkPrepare(t, a, ballot, 1, api.OK, all...)
	checkAccept(t, a, ballot, 3, "at", api.OK)
	all = append(votes(v(3, ballot, "at")), all...)
	checkIs(t, "at", a, ballot, all...)
	if ballot == math.MaxInt {
		return
	}
	checkPrepare(t, a, ballot+1, 1, api.OK, all...)
	checkIs(t, "above", a, ballot+1, all...)
	checkAccept(t, a, ballot, 3, "elder", api.ErrStale)
	checkIs(t, "elder", a, ballot+1, all...)
}

// P1301: an Accept promises its ballot as a Prepare does, though it is for another slot.
func TestAcceptPromises(t *testing.T) {
	a := New()
	checkPrepare(t, a, 2, 1, api.OK)
	checkAccept(t, a, 6, 10, "x", api.OK)
	checkIs(t, "above", a, 6, v(10, 6, "x"))
	checkPrepare(t, a, 5, 1, api.ErrStale)
	checkAccept(t, a, 5, 11, "y", api.ErrStale)
	checkAccept(t, a, 6, 9, "z", api.OK)
	checkIs(t, "the same", a, 6, v(9, 6, "z"), v(10, 6, "x"))
}

// P1301: slots are 1 to 64, all of them.
func TestSlots(t *testing.T) {
	a := New()
	var all []Vote
	for slot := 1; slot <= 64; slot++ {
		checkAccept(t, a, 3, slot, "x", api.OK)
		all = append(all, v(slot, 3, "x"))
		checkIs(t, "one more", a, 3, all...)
	}
	for _, slot := range farFroms {
		checkAccept(t, a, 4, slot, "y", api.ErrArg)
		checkIs(t, "no slot", a, 3, all...)
		b := New()
		checkAccept(t, b, 4, slot, "y", api.ErrArg)
		checkIs(t, "no slot, new", b, 0)
	}
}

// P1301, P6: ErrArg is told ahead of ErrStale, whichever number it is of.
func TestWhichError(t *testing.T) {
	for _, x := range []struct {
		ballot, slot int
		want         api.Errno
	}{
		{0, 0, api.ErrArg}, {0, 65, api.ErrArg}, {0, 1, api.ErrArg}, {-7, -7, api.ErrArg}, {math.MinInt, math.MaxInt, api.ErrArg},
		{4, 0, api.ErrArg}, {4, 65, api.ErrArg}, {1, -1, api.ErrArg}, {4, math.MaxInt, api.ErrArg}, {4, math.MinInt, api.ErrArg},
		{5, 0, api.ErrArg}, {5, 65, api.ErrArg}, {9, 0, api.ErrArg}, {9, 65, api.ErrArg}, {math.MaxInt, 65, api.ErrArg},
		{4, 1, api.ErrStale}, {4, 64, api.ErrStale}, {1, 2, api.ErrStale}, {1, 1, api.ErrStale},
		{5, 1, api.OK}, {5, 64, api.OK}, {math.MaxInt, 64, api.OK},
	} {
		a := New()
		checkPrepare(t, a, 5, 1, api.OK)
		checkAccept(t, a, x.ballot, x.slot, "x", x.want)
	}
	a := New()
	checkPrepare(t, a, 5, 1, api.OK)
	for _, from := range farFroms {
		checkPrepare(t, a, 0, from, api.ErrArg)
		checkPrepare(t, a, 4, from, api.ErrStale)
	}
}

// P5, P4: a refused call tells nothing beside its error, and changes nothing: neither what is promised, nor a vote, nor what is told then.
func TestRefusedChangesNothing(t *testing.T) {
	a := New()
	checkAccept(t, a, 3, 2, "b", api.OK)
	checkAccept(t, a, 5, 64, "z", api.OK)
	all := votes(v(2, 3, "b"), v(64, 5, "z"))
	for range 3 {
		for _, ballot := range []int{math.MinInt, -1, 0, 1, 3, 4} {
			if l, e := a.Prepare(ballot, 1); e == api.OK || len(l) != 0 {
				t.Errorf("Prepare(%d, 1): %+v, %v", ballot, l, e)
			}
			for _, slot := range []int{1, 2, 64} {
				if e := a.Accept(ballot, slot, data("refused")); e == api.OK {
					t.Errorf("Accept(%d, %d): %v", ballot, slot, e)
				}
			}
			checkIs(t, "a ballot", a, 5, all...)
		}
		for _, slot := range farFroms {
			checkAccept(t, a, 9, slot, "refused", api.ErrArg)
			checkIs(t, "a slot", a, 5, all...)
		}
	}
	checkPrepare(t, a, 5, 1, api.OK, all...)
}

// P1301: Prepare tells the votes of slots at from or above, wherever that is; Votes tells all.
func TestFrom(t *testing.T) {
	a := New()
	all := votes(v(1, 2, "a"), v(3, 2, "bb"), v(4, 3, "ccc"), v(40, 3, "dddd"), v(64, 7, "eeeee"))
	for _, x := range all {
		checkAccept(t, a, x.Ballot, x.Slot, x.Entry.Data, api.OK)
	}
	for from, ahead := range map[int]int{
		math.MinInt: 0, math.MinInt + 1: 0, -64: 0, -1: 0, 0: 0, 1: 0, 2: 1, 3: 1, 4: 2, 5: 3, 39: 3, 40: 3, 41: 4, 63: 4, 64: 4,
		65: 5, 66: 5, 1 << 32: 5, 1<<32 + 1: 5, math.MaxInt - 1: 5, math.MaxInt: 5,
	} {
		checkPrepare(t, a, 7, from, api.OK, all[ahead:]...)
		checkIs(t, "asked", a, 7, all...)
	}
}

// orders are some in which slots 1 to 64 may come.
func orders() map[string][]int {
	up := make([]int, 64)
	for i := range up {
		up[i] = i + 1
	}
	down, steps, turns := slices.Clone(up), slices.Clone(up), slices.Clone(up)
	slices.Reverse(down)
	for i := range up {
		steps[i] = i*27%64 + 1
		turns[i] = (i^1)%64 + 1
	}
	return map[string][]int{"up": up, "down": down, "by steps": steps, "by turns": turns}
}

// P1301: votes that were put in any order are told by slots, all of them and those of a part.
func TestBySlots(t *testing.T) {
	for name, order := range orders() {
		a := New()
		var all []Vote
		for i, slot := range order {
			checkAccept(t, a, i+1, slot, "x", api.OK)
			all = append(all, v(slot, i+1, "x"))
			slices.SortFunc(all, func(x, y Vote) int { return x.Slot - y.Slot })
			checkIs(t, name, a, i+1, all...)
		}
		for from := 1; from <= 64; from++ {
			checkPrepare(t, a, 64, from, api.OK, all[from-1:]...)
		}
	}
}

// P1301: who votes for a slot again, of the same or of a greater ballot, has the newer vote there alone; other slots keep theirs.
func TestVotedAgain(t *testing.T) {
	a := New()
	checkAccept(t, a, 2, 5, "first", api.OK)
	checkAccept(t, a, 2, 6, "other", api.OK)
	checkAccept(t, a, 2, 5, "again", api.OK)
	checkIs(t, "the same ballot", a, 2, v(5, 2, "again"), v(6, 2, "other"))
	checkAccept(t, a, 9, 5, "newer", api.OK)
	checkIs(t, "a greater ballot", a, 9, v(5, 9, "newer"), v(6, 2, "other"))
	checkAccept(t, a, 2, 5, "first", api.ErrStale)
	checkAccept(t, a, 9, 5, "newer", api.OK)
	checkPrepare(t, a, 9, 5, api.OK, v(5, 9, "newer"), v(6, 2, "other"))
	if e := a.Accept(9, 5, api.Entry{}); e != api.OK {
		t.Errorf("an empty one: %v", e)
	}
	checkIs(t, "an empty one", a, 9, Vote{Slot: 5, Ballot: 9}, v(6, 2, "other"))
}

// P1301: a ballot that is promised already is promised again, as often as one asks; the votes keep their ballots, whatever is promised.
func TestPrepareAgain(t *testing.T) {
	a := New()
	checkAccept(t, a, 2, 8, "x", api.OK)
	for _, ballot := range []int{2, 2, 2, 3, 3, 50, 50, 50, 1 << 40} {
		checkPrepare(t, a, ballot, 8, api.OK, v(8, 2, "x"))
		checkPrepare(t, a, ballot, 9, api.OK)
		checkIs(t, "prepared", a, ballot, v(8, 2, "x"))
	}
}

// P1301: a ballot that another one was promised above can't be accepted though it was promised once.
func TestOvertaken(t *testing.T) {
	a := New()
	checkPrepare(t, a, 3, 1, api.OK)
	checkPrepare(t, a, 4, 1, api.OK)
	checkAccept(t, a, 3, 1, "elder", api.ErrStale)
	checkAccept(t, a, 4, 1, "newer", api.OK)
	checkPrepare(t, a, 3, 1, api.ErrStale)
	checkIs(t, "behind it", a, 4, v(1, 4, "newer"))
}

// allKinds are entries of each kind, with fields of all kinds, and of kinds that there are not; an acceptor asks nothing of them.
func allKinds() []api.Entry {
	return []api.Entry{
		{},
		{Kind: api.KNone},
		{Kind: api.KData, Client: 3, Seq: 9, Data: "sixteen bytes ..", To: api.Chain},
		{Kind: api.KConf, Client: 8, Seq: 1<<40 - 1, Members: list(0, 1, 2, 3, 4, 5, 6)},
		{Kind: api.KConf, Members: list(9, 9, -1)},
		{Kind: api.KMigrate, Client: 1, Seq: 2, To: api.Raft},
		{Kind: api.KDone, Members: list(4)},
		{Kind: 5, Client: -1, Seq: math.MinInt, Data: "\x00\xff, and more bytes than an entry may have", Members: list(math.MaxInt, math.MinInt), To: -7},
		{Kind: math.MinInt, Members: list()},
		{Kind: math.MaxInt, Members: make([]int, 1000)},
	}
}

// P1301, P1302: an entry is told as it was handed in, all fields of it, by Prepare, by Votes and by Pick.
func TestEntriesStayWhole(t *testing.T) {
	a := New()
	var all []Vote
	for i, e := range allKinds() {
		if errno := a.Accept(3, i+1, e); errno != api.OK {
			t.Errorf("entry %d: %v", i, errno)
		}
		all = append(all, Vote{Slot: i + 1, Ballot: 3, Entry: allKinds()[i]})
	}
	checkIs(t, "all kinds", a, 3, all...)
	checkPrepare(t, a, 3, 1, api.OK, all...)
	for i, want := range allKinds() {
		if e, ok := Pick(a.Votes(), i+1); !ok || !same(e, want) {
			t.Errorf("Pick of %d: %+v, %v", i+1, e, ok)
		}
	}
}

// P7: two acceptors are nobody else's: what the one is asked for the other does not know.
func TestAcceptorsApart(t *testing.T) {
	a, b := New(), New()
	checkAccept(t, a, 9, 1, "a", api.OK)
	checkIs(t, "the other", b, 0)
	checkAccept(t, b, 2, 1, "b", api.OK)
	checkAccept(t, b, 3, 4, "bb", api.OK)
	checkIs(t, "the one", a, 9, v(1, 9, "a"))
	checkPrepare(t, a, 12, 1, api.OK, v(1, 9, "a"))
	checkIs(t, "the other", b, 3, v(1, 2, "b"), v(4, 3, "bb"))
	checkIs(t, "one more", New(), 0)
}

// A refusal is told within by an error that wraps its number, and says which ballot it is of.
func TestRefusal(t *testing.T) {
	a := New()
	checkPrepare(t, a, 5, 1, api.OK)
	for want, err := range map[api.Errno]error{api.ErrArg: a.refuse(-3), api.ErrStale: a.refuse(4, 1)} {
		if !errors.Is(err, want) || number(err) != want {
			t.Errorf("%v is not %v", err, want)
		}
	}
	if text := a.refuse(4, 1).Error(); text != "ballot 4: stale" {
		t.Error(text)
	}
	if err := a.refuse(5, 64); err != nil {
		t.Error(err)
	}
}
