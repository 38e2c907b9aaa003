package paxos

import (
	"slices"
	"testing"

	"synodal/api"
	"synodal/conf"
	"synodal/wire"
)

// spareNumber stands in the spare room of all that is handed in.
const spareNumber = 4711

// roomy is a list of numbers with something in its spare room.
func roomy(numbers ...int) []int {
	return append(slices.Clone(numbers), spareNumber, spareNumber, spareNumber)[:len(numbers)]
}

// whole is a list with its spare room.
func whole[E any](l []E) []E { return l[:cap(l)] }

// scrawl writes over lists of numbers and their spare room.
func scrawl(lists ...[]int) {
	for _, l := range lists {
		for i := range whole(l) {
			whole(l)[i] = -33
		}
	}
}

// scrawlMsgs writes over messages, all their lists, and the spare room of all of these.
func scrawlMsgs(l []api.Msg) {
	for i, m := range whole(l) {
		scrawl(m.Terms, m.Config.Old, m.Config.New)
		for k, e := range whole(m.Entries) {
			scrawl(e.Members)
			whole(m.Entries)[k] = api.Entry{Kind: -33, Data: "scrawl", Members: list(-33)}
		}
		whole(l)[i] = api.Msg{From: -33, Kind: -33, Terms: list(-33)}
	}
}

// roomyMsg is a message to core 1, of one that knows of an entry, and of a stop: that it is committed, or voted for. Its lists have something in their spare room.
func roomyMsg(kind, commit, term int) api.Msg {
	l := []api.Entry{
		{Kind: api.KData, Client: 1, Seq: 1, Data: "a", Members: roomy()},
		{Kind: api.KConf, Client: 1, Seq: 2, Members: roomy(0, 1, 3)},
	}
	l = append(l, api.Entry{Data: "spare", Members: roomy(7)}, api.Entry{Data: "spare"})[:len(l)]
	m := api.Msg{From: 0, To: 1, Kind: kind, Term: term, Commit: commit, Terms: roomy(), Entries: l, Config: api.Config{Old: roomy(), New: roomy()}}
	if commit < 2 {
		m.Terms = roomy(9)
	}
	return m
}

// copied is a message's lists with their spare room, in other memory.
func copied(m api.Msg) ([]int, []api.Entry) {
	l := slices.Clone(whole(m.Entries))
	for i := range l {
		l[i].Members = slices.Clone(whole(l[i].Members))
	}
	return slices.Clone(whole(m.Terms)), l
}

// stepped hands a message in, does something, and writes over the message: that must not be to be seen.
func stepped(t *testing.T, x *Core, m api.Msg, then func()) {
	t.Helper()
	wereTerms, were := copied(m)
	x.Step(m)
	nowTerms, now := copied(m)
	if !slices.Equal(nowTerms, wereTerms) || !slices.EqualFunc(now, were, wire.SameEntry) {
		t.Errorf("P2: what was handed in is now %v, %+v", nowTerms, now)
	}
	was := x.Save()
	scrawlMsgs([]api.Msg{m})
	if !slices.Equal(x.Save(), was) {
		t.Error("P2: what is written over what was handed in is to be seen")
	}
	then()
	scrawlMsgs(x.Out())
	for i, e := range roomyMsg(0, 2, 0).Entries {
		if at, ok := x.Entry(i + 1); !ok || !wire.SameEntry(at, e) {
			t.Errorf("P2: at %d: %+v, not %+v", i+1, at, e)
		}
	}
}

// P2: a message that is handed in, with its spare room, is neither changed nor kept: what is learnt, voted for, or found of it is other memory.
func TestStepKeepsNothing(t *testing.T) {
	x := newCore(t, 1, 0, 0, 1, 2)
	stepped(t, x, roomyMsg(offer, 2, 9), func() {})
	x = newCore(t, 1, 0, 0, 1, 2)
	stepped(t, x, roomyMsg(offer, 1, 9), func() { // it voted for the stop, finds that, and gets it committed
		stands(t, x, 0)
		x.Step(api.Msg{From: 2, To: 1, Kind: promise, Term: x.Term(), Index: 1, Commit: 1})
		x.Step(api.Msg{From: 2, To: 1, Kind: taken, Term: x.Term(), Index: 2, Commit: 2})
	})
	x = newCore(t, 1, 0, 0, 1, 2, 3, 4)
	stands(t, x, 0)
	stands(t, x, 0)
	stepped(t, x, roomyMsg(promise, 1, x.Term()), func() { // another one's vote
		x.Step(api.Msg{From: 2, To: 1, Kind: promise, Term: x.Term(), Index: 1, Commit: 1})
		x.Step(api.Msg{From: 2, To: 1, Kind: taken, Term: x.Term(), Index: 2, Commit: 2})
		x.Step(api.Msg{From: 3, To: 1, Kind: taken, Term: x.Term(), Index: 2, Commit: 2})
	})
}

// P2: the members, the bytes and the entries that are handed in are neither changed nor kept.
func TestHandedInIsNotKept(t *testing.T) {
	members := roomy(0)
	x, _ := New(0, members, 0)
	for range 20 {
		x.Tick(0)
	}
	e := api.Entry{Kind: api.KConf, Client: 1, Seq: 1, Members: roomy(0, 2)}
	if _, errno := x.Propose(e); errno != api.OK {
		t.Fatal(errno)
	}
	b := append(x.Save(), "spare"...)
	b = b[:len(b)-5]
	y, errno := Load(0, b)
	if errno != api.OK || string(whole(b)[len(b):len(b)+5]) != "spare" {
		t.Fatalf("P2: Load: %v, and behind the bytes %q", errno, whole(b)[len(b):])
	}
	if !slices.Equal(whole(members)[:4], list(0, spareNumber, spareNumber, spareNumber)) || !slices.Equal(whole(e.Members)[:5], list(0, 2, spareNumber, spareNumber, spareNumber)) {
		t.Errorf("P2: what was handed in is now %v, %v", whole(members), whole(e.Members))
	}
	scrawl(members, e.Members)
	for i := range whole(b) {
		whole(b)[i] = 33
	}
	for _, c := range []*Core{x, y} {
		at, _ := c.Entry(1)
		if !conf.Same(c.Config(), api.Config{New: list(0)}) || !slices.Equal(at.Members, list(0, 2)) {
			t.Errorf("P2: what is written over what was handed in is to be seen: %v, %v", c.Config(), at)
		}
	}
}

// P2: an entry that waits is not what was handed in.
func TestWaitingIsNotKept(t *testing.T) {
	x := newCore(t, 0, 0, 0, 1, 2)
	ledBy(t, x, 1)
	e := api.Entry{Kind: api.KConf, Client: 1, Seq: 1, Members: roomy(0, 2)}
	x.Propose(letters("a")[0])
	x.Propose(e)
	scrawl(e.Members)
	for commit := range 2 {
		x.Step(api.Msg{From: 1, To: 0, Kind: taken, Term: x.Term(), Index: commit + 1, Commit: commit + 1})
	}
	if at, ok := x.Entry(2); !ok || !slices.Equal(at.Members, list(0, 2)) {
		t.Errorf("P2: at 2: %+v", at)
	}
}

// P2: what a core tells is new memory: whoever writes over it changes neither the core nor what it told ahead.
func TestToldIsOwn(t *testing.T) {
	x := newCore(t, 1, 0, 0, 1, 2)
	x.Step(roomyMsg(offer, 2, 9))
	was := x.Save()
	for range 2 {
		b := whole(x.Save())
		for i := range b {
			b[i] = 33
		}
		c, other := x.Config(), x.Config()
		scrawl(c.Old, c.New)
		if !conf.Same(other, api.Config{New: list(0, 1, 2)}) {
			t.Errorf("P2: two answers share memory: %v", other)
		}
		e, _ := x.Entry(2)
		again, _ := x.Entry(2)
		scrawl(e.Members)
		if !slices.Equal(again.Members, list(0, 1, 3)) {
			t.Errorf("P2: two answers share memory: %v", again)
		}
	}
	if !slices.Equal(x.Save(), was) {
		t.Error("P2: what is written over an answer is to be seen in the core")
	}
}

// telling is a core that stood, and tells eight others of an entry that is committed, and of a stop that it found.
func telling(t *testing.T) (*Core, []api.Msg) {
	t.Helper()
	x := newCore(t, 1, 0, 0, 1, 2)
	x.Step(roomyMsg(offer, 1, 9))
	stands(t, x, 0)
	x.Out()
	x.Step(api.Msg{From: 2, To: 1, Kind: promise, Term: x.Term(), Index: 1, Commit: 0})
	out := x.Out()
	if len(x.waits) != 1 || len(out) != 8 {
		t.Fatalf("role %d, %d messages", x.Role(), len(out))
	}
	return x, out
}

// P2: messages that a core hands out share no memory, with one another or with the core.
func TestOutIsOwn(t *testing.T) {
	x, out := telling(t)
	was := x.Save()
	for i, m := range out {
		if len(m.Entries) != 2 || !slices.Equal(m.Terms, list(x.Term())) || !slices.Equal(m.Entries[1].Members, list(0, 1, 3)) {
			t.Fatalf("P2: message %d shares memory with another one: %+v", i, m)
		}
		scrawlMsgs(out[i : i+1 : i+1])
	}
	scrawlMsgs(out)
	if !slices.Equal(x.Save(), was) {
		t.Error("P2: what is written over messages is to be seen in the core")
	}
	x.Step(api.Msg{From: 2, To: 1, Kind: taken, Term: x.Term(), Index: 2, Commit: 2})
	if e, _ := x.Entry(2); !slices.Equal(e.Members, list(0, 1, 3)) {
		t.Errorf("P2: at 2: %+v", e)
	}
	for range 8 {
		x.Tick(0)
	}
	for _, m := range x.Out() {
		checkSent(t, 1, m)
	}
}

// P2: messages that were handed out stay as they are, whatever the core does then.
func TestOutStays(t *testing.T) {
	x, out := telling(t)
	was, _ := wire.EncodeMsg(out[0])
	x.Step(api.Msg{From: 2, To: 1, Kind: taken, Term: x.Term(), Index: 2, Commit: 2})
	for range 8 {
		x.Tick(0)
	}
	x.Out()
	if now, _ := wire.EncodeMsg(out[0]); !slices.Equal(now, was) {
		t.Error("P2: a message is another one behind a later call")
	}
}
