package chain

import (
	"slices"
	"testing"

	"synodal/api"
	"synodal/conf"
	"synodal/wire"
)

// spareNumber stands in the spare room of all that is handed in.
const spareNumber = 4711

// roomy is a list of numbers with something in its spare room.
func roomy(numbers ...int) []int {
	return append(slices.Clone(numbers), spareNumber, spareNumber, spareNumber)[:len(numbers)]
}

// whole is a list with its spare room.
func whole[E any](l []E) []E { return l[:cap(l)] }

// scrawl writes over lists of numbers and their spare room.
func scrawl(lists ...[]int) {
	for _, l := range lists {
		for i := range whole(l) {
			whole(l)[i] = -33
		}
	}
}

// scrawlMsgs writes over messages, all their lists, and the spare room of all of these.
func scrawlMsgs(l []api.Msg) {
	for i, m := range whole(l) {
		scrawl(m.Terms, m.Config.Old, m.Config.New)
		for k, e := range whole(m.Entries) {
			scrawl(e.Members)
			whole(m.Entries)[k] = api.Entry{Kind: -33, Data: "scrawl", Members: list(-33)}
		}
		whole(l)[i] = api.Msg{From: -33, Kind: -33, Terms: list(-33)}
	}
}

// roomyMsg is a message to core 1 that tells two ends, with something ahead, between, and behind. Its lists have something in their spare room.
func roomyMsg(kind, term int) api.Msg {
	l := []api.Entry{
		{Kind: api.KData, Client: 1, Seq: 1, Data: "a", Members: roomy()},
		{Kind: api.KConf, Client: 1, Seq: 2, Members: roomy(1, 3)},
		{Kind: api.KConf, Client: 1, Seq: 3, Members: roomy(0, 1, 3)},
	}
	l = append(l, api.Entry{Data: "spare", Members: roomy(7)}, api.Entry{Data: "spare"})[:len(l)]
	return api.Msg{From: 0, To: 1, Kind: kind, Term: term, Commit: 3, Terms: roomy(), Entries: l, Config: api.Config{Old: roomy(), New: roomy()}}
}

// copied is a message's lists with their spare room, in other memory.
func copied(m api.Msg) ([]int, []api.Entry) {
	l := slices.Clone(whole(m.Entries))
	for i := range l {
		l[i].Members = slices.Clone(whole(l[i].Members))
	}
	return slices.Clone(whole(m.Terms)), l
}

// checkStepped hands a message in, and writes over it, and over all that is answered: that must not be to be seen.
func checkStepped(t *testing.T, what string, x *Core, m api.Msg, entries int) {
	t.Helper()
	wereTerms, were := copied(m)
	x.Step(m)
	nowTerms, now := copied(m)
	if !slices.Equal(nowTerms, wereTerms) || !slices.EqualFunc(now, were, wire.SameEntry) {
		t.Errorf("P2: %s: what was handed in is now %v, %+v", what, nowTerms, now)
	}
	was := x.Save()
	scrawlMsgs([]api.Msg{m})
	scrawlMsgs(x.Out())
	if !slices.Equal(x.Save(), was) || x.Commit() != entries {
		t.Errorf("P2: %s: what is written over what was handed in, or told, is to be seen", what)
	}
	for i, e := range roomyMsg(0, 0).Entries[:entries] {
		if at, ok := x.Entry(i + 1); !ok || !wire.SameEntry(at, e) {
			t.Errorf("P2: %s: at %d: %+v, not %+v", what, i+1, at, e)
		}
	}
}

// P2: a message that is handed in, with its spare room, is neither changed nor kept, be it a story, or an instance's.
func TestStepKeepsNothing(t *testing.T) {
	x := newCore(t, 1, 0, 0, 1, 2)
	checkStepped(t, "a story", x, roomyMsg(story, 2<<ballotBits), 3)
	x.Step(api.Msg{From: 8, To: 1, Kind: place, Yes: true})
	if out := x.Out(); len(out) != 1 || !slices.EqualFunc(out[0].Entries, roomyMsg(0, 0).Entries, wire.SameEntry) {
		t.Errorf("P2: it tells %+v", out)
	}
	x = newCore(t, 1, 0, 0, 1, 2)
	checkStepped(t, "an offer", x, roomyMsg(offer, 9), 2)
	checkStepped(t, "a story behind it", x, roomyMsg(story, 2<<ballotBits), 3)
	checkStepped(t, "an elder instance's", x, roomyMsg(offer, 9), 3)
	checkStepped(t, "a later instance's", x, roomyMsg(offer, 5<<ballotBits+9), 3)
}

// P2: the members, the bytes and the entries that are handed in are neither changed nor kept.
func TestHandedInIsNotKept(t *testing.T) {
	members := roomy(0)
	x, _ := New(0, members, 0)
	for range 20 {
		x.Tick(0)
	}
	e := api.Entry{Kind: api.KConf, Client: 1, Seq: 1, Members: roomy(0, 2)}
	if _, errno := x.Propose(e); errno != api.OK || x.Instances() != 2 {
		t.Fatal(errno)
	}
	b := append(x.Save(), "spare"...)
	b = b[:len(b)-5]
	y, errno := Load(0, b)
	if errno != api.OK || string(whole(b)[len(b):len(b)+5]) != "spare" {
		t.Fatalf("P2: Load: %v, and behind the bytes %q", errno, whole(b)[len(b):])
	}
	if !slices.Equal(whole(members)[:4], list(0, spareNumber, spareNumber, spareNumber)) || !slices.Equal(whole(e.Members)[:5], list(0, 2, spareNumber, spareNumber, spareNumber)) {
		t.Errorf("P2: what was handed in is now %v, %v", whole(members), whole(e.Members))
	}
	was := slices.Clone(b)
	scrawl(members, e.Members)
	for i := range whole(b) {
		whole(b)[i] = 33
	}
	for _, c := range []*Core{x, y} {
		at, _ := c.Entry(1)
		if !conf.Same(c.Config(), api.Config{New: list(0, 2)}) || !slices.Equal(at.Members, list(0, 2)) || !slices.Equal(c.Save(), was) {
			t.Errorf("P2: what is written over what was handed in is to be seen: %v, %v", c.Config(), at)
		}
	}
}

// P2: an entry that waits is not what was handed in.
func TestWaitingIsNotKept(t *testing.T) {
	x := newCore(t, 0, 0, 0, 1, 2)
	stands(t, x, 0)
	x.Step(api.Msg{From: 1, To: 0, Kind: promise, Term: x.Term()})
	e := api.Entry{Kind: api.KConf, Client: 1, Seq: 1, Members: roomy(0, 2)}
	x.Propose(letters("a")[0])
	x.Propose(e)
	scrawl(e.Members)
	for commit := range 2 {
		x.Step(api.Msg{From: 1, To: 0, Kind: taken, Term: x.Term(), Index: commit + 1, Commit: commit + 1})
	}
	if at, ok := x.Entry(2); !ok || !slices.Equal(at.Members, list(0, 2)) || !conf.Same(x.Config(), api.Config{New: list(0, 2)}) {
		t.Errorf("P2: at 2: %+v, %v", at, x.Config())
	}
}

// P2: what a core tells is new memory: whoever writes over it changes neither the core nor what it told ahead.
func TestToldIsOwn(t *testing.T) {
	x := newCore(t, 1, 0, 0, 1, 2)
	x.Step(roomyMsg(story, 2<<ballotBits))
	was := x.Save()
	for range 2 {
		b := whole(x.Save())
		for i := range b {
			b[i] = 33
		}
		c, other := x.Config(), x.Config()
		scrawl(c.Old, c.New)
		if !conf.Same(other, api.Config{New: list(0, 1, 3)}) {
			t.Errorf("P2: two answers share memory: %v", other)
		}
		for i, want := range [][]int{{1, 3}, {0, 1, 3}} {
			e, _ := x.Entry(i + 2)
			again, _ := x.Entry(i + 2)
			scrawl(e.Members)
			if !slices.Equal(again.Members, want) {
				t.Errorf("P2: two answers share memory: %v", again)
			}
		}
	}
	if !slices.Equal(x.Save(), was) {
		t.Error("P2: what is written over an answer is to be seen in the core")
	}
}

// stories are what a core tells that has been told of two ends.
func stories(t *testing.T) (*Core, []api.Msg) {
	t.Helper()
	x := newCore(t, 1, 0, 0, 1, 2)
	x.Step(roomyMsg(story, 2<<ballotBits))
	out := slices.DeleteFunc(x.Out(), func(m api.Msg) bool { return m.Kind != story })
	if len(out) != 2 {
		t.Fatalf("%+v", out)
	}
	return x, out
}

// P2: messages that a core hands out share no memory, with one another or with the core.
func TestOutIsOwn(t *testing.T) {
	x, out := stories(t)
	was := x.Save()
	for i, m := range out {
		if !slices.EqualFunc(m.Entries, roomyMsg(0, 0).Entries, wire.SameEntry) {
			t.Fatalf("P2: message %d shares memory with another one: %+v", i, m)
		}
		scrawlMsgs(out[i : i+1 : i+1])
	}
	scrawlMsgs(out)
	if !slices.Equal(x.Save(), was) {
		t.Error("P2: what is written over messages is to be seen in the core")
	}
	for range 8 {
		x.Tick(0)
	}
	for _, m := range x.Out() {
		checkSent(t, 1, m)
		if m.Kind == story && !slices.EqualFunc(m.Entries, roomyMsg(0, 0).Entries, wire.SameEntry) {
			t.Errorf("P2: what is written over messages is told: %+v", m)
		}
	}
}

// P2: messages that were handed out stay as they are, whatever the core does then.
func TestOutStays(t *testing.T) {
	x, out := stories(t)
	was, _ := wire.EncodeMsg(out[0])
	x.Step(api.Msg{From: 0, To: 1, Kind: story, Term: 3 << ballotBits, Index: 3, Commit: 5, Entries: []api.Entry{letters("z")[0], change(1)}})
	for range 30 {
		x.Tick(0)
	}
	x.Propose(change(1, 2))
	x.Out()
	if now, _ := wire.EncodeMsg(out[0]); x.Instances() != 5 || !slices.Equal(now, was) {
		t.Errorf("P2: a message is another one behind a later call; %d instances", x.Instances())
	}
}
