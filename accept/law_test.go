package accept

import (
	"math"
	"testing"

	"synodal/api"
)

// model is what the chapter says of an acceptor, worked out from all that was ever promised and accepted.
type model struct {
	promises []int
	accepted []Vote
}

func (m *model) promised() int {
	greatest := 0
	for _, ballot := range m.promises {
		if ballot > greatest {
			greatest = ballot
		}
	}
	return greatest
}

// from are the votes at or above a slot: of each slot that which was accepted last.
func (m *model) from(from int) []Vote {
	var out []Vote
	for slot := 1; slot <= 64; slot++ {
		for i := len(m.accepted) - 1; i >= 0 && slot >= from; i-- {
			if m.accepted[i].Slot == slot {
				out = append(out, m.accepted[i])
				break
			}
		}
	}
	return out
}

func (m *model) prepare(ballot, from int) ([]Vote, api.Errno) {
	if ballot < 1 {
		return nil, api.ErrArg
	}
	if ballot < m.promised() {
		return nil, api.ErrStale
	}
	m.promises = append(m.promises, ballot)
	return m.from(from), api.OK
}

func (m *model) accept(ballot, slot int, e api.Entry) api.Errno {
	if ballot < 1 || slot < 1 || slot > 64 {
		return api.ErrArg
	}
	if ballot < m.promised() {
		return api.ErrStale
	}
	m.promises = append(m.promises, ballot)
	m.accepted = append(m.accepted, Vote{slot, ballot, e})
	return api.OK
}

// picks is a row of numbers that hang on a first one.
type picks uint32

func (x *picks) next(count int) int {
	*x = *x*1664525 + 1013904223
	return int(*x>>8) % count
}

// call is one that an acceptor may be asked.
type call struct {
	prepare    bool
	ballot, at int
	entry      api.Entry
}

// ask asks an acceptor.
func (c call) ask(a *Acceptor) ([]Vote, api.Errno) {
	if c.prepare {
		return a.Prepare(c.ballot, c.at)
	}
	return nil, a.Accept(c.ballot, c.at, c.entry)
}

func (c call) askModel(m *model) ([]Vote, api.Errno) {
	if c.prepare {
		return m.prepare(c.ballot, c.at)
	}
	return nil, m.accept(c.ballot, c.at, c.entry)
}

// drawnCall is one about what is promised, mostly such as may be.
func drawnCall(x *picks, promised int) call {
	c := call{prepare: x.next(4) == 0, ballot: promised, at: x.next(70) - 2, entry: allKinds()[x.next(8)]}
	c.entry.Seq = x.next(1000)
	switch x.next(8) {
	case 0:
		c.ballot += x.next(7) - 3
	case 1:
		c.ballot = x.next(5) - 2
	case 2:
		c.at = x.next(4) * 20
	case 3:
		c.at = farFroms[x.next(len(farFroms))]
	case 4:
		c.ballot += x.next(3)
	}
	return c
}

// law is P1303: what was told ahead, by the acceptor's own answers.
type law struct {
	promised int
	ballots  map[int]int // of each slot's vote
}

// check says that nothing fell since it was asked last: a vote that is there stays, of no lesser ballot; and none is of a greater one than is promised.
func (w *law) check(t *testing.T, a *Acceptor) {
	t.Helper()
	if a.Promised() < w.promised {
		t.Fatalf("P1303: %d is promised, behind %d", a.Promised(), w.promised)
	}
	w.promised = a.Promised()
	now := map[int]int{}
	for _, x := range a.Votes() {
		now[x.Slot] = x.Ballot
		if x.Ballot > w.promised || x.Ballot < 1 {
			t.Fatalf("slot %d has a vote of ballot %d, and %d is promised", x.Slot, x.Ballot, w.promised)
		}
	}
	for slot, ballot := range w.ballots {
		if now[slot] < ballot {
			t.Fatalf("P1303: slot %d has a vote of ballot %d, behind %d", slot, now[slot], ballot)
		}
	}
	w.ballots = now
}

// checkCall asks two acceptors and the model the same, and holds all that is told then against each other.
func checkCall(t *testing.T, c call, m *model, a, twin *Acceptor) api.Errno {
	t.Helper()
	want, wantErrno := c.askModel(m)
	got, e := c.ask(a)
	again, eAgain := c.ask(twin)
	if e != wantErrno || eAgain != wantErrno {
		t.Fatalf("%+v: %v and %v, not %v", c, e, eAgain, wantErrno)
	}
	if !sameVotes(got, want) || !sameVotes(again, want) {
		t.Fatalf("%+v: %+v and %+v, not %+v", c, got, again, want)
	}
	checkIs(t, "the one", a, m.promised(), m.from(1)...)
	checkIs(t, "the other", twin, m.promised(), m.from(1)...)
	if t.Failed() {
		t.FailNow()
	}
	return e
}

// P1301, P1303, P3: long rows of drawn calls on two acceptors, against the model and the law; both answer the same.
func TestLongRows(t *testing.T) {
	answers := map[api.Errno]int{}
	for seed := range 100 {
		x := picks(seed)
		a, twin, m, w := New(), New(), &model{}, &law{}
		for range 150 {
			answers[checkCall(t, drawnCall(&x, m.promised()), m, a, twin)]++
			w.check(t, a)
		}
	}
	for _, e := range []api.Errno{api.OK, api.ErrArg, api.ErrStale} {
		if answers[e] < 1000 {
			t.Errorf("hardly asked: %v %d times", e, answers[e])
		}
	}
}

// P1301, P1303: every row of three calls out of these, with ballots from below 1 to the end of int, on slots at the edges.
func TestEveryRow(t *testing.T) {
	var some []call
	for _, ballot := range []int{0, 1, 2, math.MaxInt} {
		for _, at := range []int{0, 1, 2, 64, 65} {
			some = append(some, call{prepare: true, ballot: ballot, at: at}, call{ballot: ballot, at: at})
		}
	}
	for i := range len(some) * len(some) * len(some) {
		a, twin, m, w := New(), New(), &model{}, &law{}
		for at, k := 0, i; at < 3; at, k = at+1, k/len(some) {
			c := some[k%len(some)]
			c.entry = data("abc"[:at+1])
			checkCall(t, c, m, a, twin)
			w.check(t, a)
		}
	}
}

// proposer asks acceptors, one by one, to promise a ballot that is its own, and then to accept what must be proposed for slot 1.
type proposer struct {
	ballot   int
	promised map[int]int // by acceptor
	accepted map[int]int
	told     []Vote
	entry    api.Entry
}

func newProposer(ballot int) *proposer {
	return &proposer{ballot: ballot, promised: map[int]int{}, accepted: map[int]int{}}
}

// step asks one acceptor; it answers whether a majority has accepted.
func (p *proposer) step(k int, acceptors []*Acceptor) bool {
	if 2*len(p.promised) > len(acceptors) {
		if acceptors[k].Accept(p.ballot, 1, p.entry) == api.OK {
			p.accepted[k]++
		}
		return 2*len(p.accepted) > len(acceptors)
	}
	l, e := acceptors[k].Prepare(p.ballot, 1)
	if e == api.OK {
		p.told = append(p.told, l...)
		p.promised[k]++
	}
	var ok bool
	if p.entry, ok = Pick(p.told, 1); !ok {
		p.entry = api.Entry{Kind: api.KData, Seq: p.ballot}
	}
	return false
}

// checkChosen lets proposers step in a drawn order, and says that all of whom a majority has accepted have the same entry; it counts them.
func checkChosen(t *testing.T, x *picks) int {
	t.Helper()
	var acceptors []*Acceptor
	for range 1 + 2*x.next(3) {
		acceptors = append(acceptors, New())
	}
	var proposers []*proposer
	for ballot := range 8 {
		proposers = append(proposers, newProposer(ballot+1))
	}
	chosen := map[int]int{} // by ballot, the number of the entry
	for i := range 160 {
		p := proposers[min(x.next(8), x.next(2+i/20))] // later ones come later, mostly
		if !p.step(x.next(len(acceptors)), acceptors) {
			continue
		}
		chosen[p.ballot] = p.entry.Seq
		for ballot, seq := range chosen {
			if seq != p.entry.Seq {
				t.Fatalf("ballot %d chose %d, ballot %d chose %d", p.ballot, p.entry.Seq, ballot, seq)
			}
		}
	}
	return len(chosen)
}

// What P1301 to P1303 are for: whatever a majority has accepted of one ballot, no other entry is ever chosen in that slot.
func TestOneIsChosen(t *testing.T) {
	counts := map[int]int{}
	for seed := range 3000 {
		x := picks(seed)
		counts[checkChosen(t, &x)]++
	}
	if counts[2]+counts[3]+counts[4] < 500 {
		t.Errorf("hardly asked: how many ballots were chosen, and how often: %v", counts)
	}
}
