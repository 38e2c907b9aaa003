package accept

import (
	"slices"
	"testing"

	"synodal/api"
)

// spare stands in the spare room of all that is handed in.
const spare = 4711

// roomy is a list of numbers with something in its spare room.
func roomy(numbers ...int) []int {
	return append(slices.Clone(numbers), spare, spare, spare)[:len(numbers)]
}

// roomyVotes are votes whose lists, and that of them, have something in their spare room.
func roomyVotes() []Vote {
	l := votes(
		Vote{Slot: 1, Ballot: 3, Entry: api.Entry{Kind: api.KConf, Client: 1, Seq: 1, Members: roomy(1, 2)}},
		Vote{Slot: 2, Ballot: 3, Entry: api.Entry{Kind: api.KDone, Members: roomy(1, 2)}},
		Vote{Slot: 5, Ballot: 4, Entry: api.Entry{Kind: api.KConf, Client: 1, Seq: 2, Members: roomy(3)}},
		Vote{Slot: 64, Ballot: 4, Entry: api.Entry{Kind: api.KData, Client: 2, Seq: 1, Data: "x", Members: roomy()}},
	)
	return append(l, Vote{Slot: 1, Ballot: 99, Entry: api.Entry{Data: "spare", Members: roomy(7)}})[:len(l)]
}

// whole is a list with its spare room.
func whole[E any](l []E) []E { return l[:cap(l)] }

// scrawl writes over a list of numbers and its spare room.
func scrawl(l []int) {
	for i := range whole(l) {
		whole(l)[i] = -33
	}
}

// scrawlVotes writes over votes, their lists, and the spare room of all of these.
func scrawlVotes(l []Vote) {
	for i := range whole(l) {
		scrawl(whole(l)[i].Entry.Members)
		whole(l)[i] = Vote{Slot: -33, Ballot: -33, Entry: api.Entry{Kind: -33, Data: "scrawl", Members: list(-33)}}
	}
}

// copied is votes and their spare room, and that of their lists, in other memory.
func copied(l []Vote) []Vote {
	out := slices.Clone(whole(l))
	for i := range out {
		out[i].Entry.Members = slices.Clone(whole(out[i].Entry.Members))
	}
	return out
}

// accepting is an acceptor that has accepted these votes.
func accepting(t *testing.T, l []Vote) *Acceptor {
	t.Helper()
	a := New()
	for _, x := range l {
		if e := a.Accept(x.Ballot, x.Slot, x.Entry); e != api.OK {
			t.Fatalf("%+v: %v", x, e)
		}
	}
	return a
}

// asks are the ways in which an acceptor of roomyVotes tells votes; all of them tell all.
func asks(a *Acceptor) map[string]func() []Vote {
	prepare := func() []Vote {
		l, _ := a.Prepare(4, 1)
		return l
	}
	return map[string]func() []Vote{"Votes": a.Votes, "Prepare": prepare}
}

// P2: neither Accept nor Pick changes what is handed in, its spare room too, whether it is taken or refused, and whatever is called then.
func TestHandedInStays(t *testing.T) {
	l := roomyVotes()
	were := copied(l)
	a := accepting(t, l)
	for _, x := range l {
		a.Accept(0, x.Slot, x.Entry)
		a.Accept(4, 0, x.Entry)
		a.Accept(1, x.Slot, x.Entry)
		a.Accept(4, 2, x.Entry)
	}
	for slot := range 66 {
		e, _ := Pick(l, slot)
		scrawl(e.Members)
	}
	for _, ask := range asks(a) {
		scrawlVotes(ask())
	}
	if now := copied(l); !sameVotes(now, were) {
		t.Errorf("with its spare room it is %+v, not %+v", now, were)
	}
}

// P2: an acceptor keeps no memory of what was handed in.
func TestHandedInIsNotKept(t *testing.T) {
	l := roomyVotes()
	a := accepting(t, l)
	scrawlVotes(l)
	checkIs(t, "scrawled over", a, 4, roomyVotes()...)
	checkPrepare(t, a, 4, 1, api.OK, roomyVotes()...)
}

// P2: entries may be handed in that share their lists with one another; an acceptor's do not.
func TestHandedInShared(t *testing.T) {
	one := list(4, 5, 6, 7)
	wants := [][]int{{4, 5}, {4, 5, 6}, {5}, {}, {4, 5, 6, 7}}
	a := accepting(t, votes(
		Vote{1, 1, api.Entry{Members: one[:2]}}, Vote{2, 1, api.Entry{Members: one[:3]}}, Vote{3, 1, api.Entry{Members: one[1:2]}},
		Vote{4, 1, api.Entry{Members: one[:0]}}, Vote{5, 1, api.Entry{Members: one}},
	))
	for i, x := range a.Votes() {
		if !slices.Equal(x.Entry.Members, wants[i]) {
			t.Errorf("slot %d: %v, or it shares memory with another", x.Slot, x.Entry.Members)
		}
		scrawl(x.Entry.Members)
	}
	if !slices.Equal(one, list(4, 5, 6, 7)) {
		t.Errorf("what was handed in: %v", one)
	}
	scrawl(one)
	for i, x := range a.Votes() {
		if !slices.Equal(x.Entry.Members, wants[i]) {
			t.Errorf("slot %d: %v behind it", x.Slot, x.Entry.Members)
		}
	}
}

// P2: what is told is new memory, its spare room too: whoever writes over it changes neither the acceptor nor what was told otherwise.
func TestToldIsOwn(t *testing.T) {
	a := accepting(t, roomyVotes())
	for name, ask := range asks(a) {
		for other, askOther := range asks(a) {
			l := askOther()
			scrawlVotes(ask())
			if !sameVotes(l, roomyVotes()) {
				t.Errorf("%s shares memory with what %s told ahead: %+v", name, other, l)
			}
			checkIs(t, name+" written over", a, 4, roomyVotes()...)
			checkPrepare(t, a, 4, 1, api.OK, roomyVotes()...)
		}
	}
}

// P2: no two lists of one answer share memory, their spare room too.
func TestListsOfOneAnswer(t *testing.T) {
	a := accepting(t, roomyVotes())
	for name, ask := range asks(a) {
		for i, x := range ask() {
			if !slices.Equal(x.Entry.Members, roomyVotes()[i].Entry.Members) {
				t.Errorf("%s: slot %d: %v: its list is a part of another", name, x.Slot, x.Entry.Members)
			}
			scrawl(x.Entry.Members)
		}
	}
}

// P2: what was told stays, whatever becomes of the acceptor.
func TestToldStays(t *testing.T) {
	a := accepting(t, roomyVotes())
	told := map[string][]Vote{}
	for name, ask := range asks(a) {
		told[name] = ask()
	}
	for slot := 1; slot <= 64; slot++ {
		a.Accept(4, slot, data("newer"))
		a.Accept(5, slot, data("newest"))
	}
	for name, l := range told {
		if !sameVotes(l, roomyVotes()) {
			t.Errorf("what %s told is now %+v", name, l)
		}
	}
}

// P2: Pick keeps and tells no memory of the votes that it is handed, their spare room too; and it asks nothing of that.
func TestPickIsOwn(t *testing.T) {
	for _, want := range roomyVotes() {
		l := roomyVotes()
		were := copied(l)
		e, ok := Pick(l, want.Slot)
		again, _ := Pick(l, want.Slot)
		if !ok || !same(e, want.Entry) {
			t.Errorf("slot %d: %+v, %v", want.Slot, e, ok)
		}
		scrawl(e.Members)
		if !sameVotes(copied(l), were) || !same(again, want.Entry) {
			t.Errorf("slot %d: it was written over: %+v, %+v", want.Slot, l, again)
		}
		scrawlVotes(l)
		if !same(again, want.Entry) {
			t.Errorf("slot %d: the answer is the list's memory: %+v", want.Slot, again)
		}
	}
}

// P2: two acceptors of the same entries share nothing, also where the one took what the other told.
func TestAcceptorsShareNothing(t *testing.T) {
	a := accepting(t, roomyVotes())
	told := a.Votes()
	b := accepting(t, told)
	scrawlVotes(told)
	scrawlVotes(b.Votes())
	for slot := 1; slot <= 64; slot++ {
		a.Accept(9, slot, data("newer"))
	}
	checkIs(t, "the other", b, 4, roomyVotes()...)
}
