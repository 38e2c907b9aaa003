package paxos

import (
	"math"
	"slices"
	"strconv"
	"testing"

	"synodal/api"
	"synodal/conf"
)

// letters are entries, one a letter.
func letters(text string) []api.Entry {
	var out []api.Entry
	for i, c := range text {
		out = append(out, api.Entry{Kind: api.KData, Client: 1, Seq: i + 1, Data: string(c)})
	}
	return out
}

// told is what a core knows to be committed, by its letters.
func told(x *Core) string {
	out := ""
	for i := x.base + 1; i <= x.Commit(); i++ {
		e, _ := x.Entry(i)
		out += e.Data
	}
	return out
}

// checkPassedOver says that a message does nothing.
func checkPassedOver(t *testing.T, what string, x *Core, m api.Msg) {
	t.Helper()
	was, role := x.Save(), x.Role()
	x.Step(m)
	if out := x.Out(); !slices.Equal(x.Save(), was) || x.Role() != role || len(out) > 0 {
		t.Errorf("P1401: %s: %+v is not passed over: %+v", what, m, out)
	}
}

// some are a Follower, a Candidate, one that proposes what it found, and a Leader, all of them core 1.
func some(t *testing.T) map[string]*Core {
	t.Helper()
	out := map[string]*Core{}
	for at, what := range []string{"a Follower", "a Candidate", "one that found something", "a Leader"} {
		x := newCore(t, 1, 0, 0, 1, 2)
		if at > 0 {
			stands(t, x, 0)
		}
		if at == 2 {
			x.Step(api.Msg{From: 2, To: 1, Kind: promise, Term: 1, Terms: list(1), Entries: letters("z")})
		}
		if at == 3 {
			x.Step(api.Msg{From: 2, To: 1, Kind: promise, Term: 1})
			x.Propose(letters("a")[0])
		}
		if want := list(api.Follower, api.Candidate, api.Candidate, api.Leader)[at]; x.Role() != want || len(x.waits) != at/2 {
			t.Fatalf("role %d, not %d; %d wait", x.Role(), want, len(x.waits))
		}
		x.Out()
		out[what] = x
	}
	return out
}

// P1401: a message that is to another core, or of one's own, is passed over, of whatever kind and ballot.
func TestPassedOver(t *testing.T) {
	for what, x := range some(t) {
		for kind := range 17 {
			for _, term := range list(0, 1, 2, 11, 20) {
				m := api.Msg{From: 2, Kind: kind, Term: term, Commit: 1, Entries: letters("xy"), Terms: list(term)}
				for _, to := range list(0, 2, 3, 8, 9, -1, math.MinInt, math.MaxInt) {
					m.To = to
					checkPassedOver(t, what+", to "+strconv.Itoa(to), x, m)
				}
				m.To = 1
				for _, from := range list(1, -1, 9, math.MinInt, math.MaxInt) {
					m.From = from
					checkPassedOver(t, what+", of "+strconv.Itoa(from), x, m)
				}
			}
		}
	}
}

// P1401, P1403: a ballot that is not its sender's is neither promised nor followed, least of all one's own.
func TestForeignBallot(t *testing.T) {
	for what, x := range some(t) {
		for _, kind := range list(ask, offer) {
			for _, term := range list(1, 9, 10, 12, 19) {
				checkPassedOver(t, what, x, api.Msg{From: 2, To: 1, Kind: kind, Term: term, Commit: 1, Entries: letters("xy"), Terms: list(term)})
			}
		}
	}
}

// P1401: a message of an elder ballot changes nothing; one that wants an answer is told the newer one.
func TestElderBallot(t *testing.T) {
	for what, x := range some(t) {
		x.Step(api.Msg{From: 2, To: 1, Kind: taken, Term: 50})
		x.Out()
		was := x.Save()
		for kind := ask; kind <= taken; kind++ {
			for _, term := range list(2, 11, 47) {
				x.Step(api.Msg{From: 2, To: 1, Kind: kind, Term: term, Commit: 1, Entries: letters("xy"), Terms: list(term)})
				out := x.Out()
				if !slices.Equal(x.Save(), was) || x.Role() != api.Follower {
					t.Errorf("P1401: %s: a message of the kind %d, of an elder ballot, changes it", what, kind)
				}
				wants := kind == ask || kind == offer
				if wants != (len(out) == 1) || wants && (out[0].To != 2 || out[0].Term != 50) {
					t.Errorf("P1401: %s: a message of the kind %d, of an elder ballot, is answered by %+v", what, kind, out)
				}
			}
		}
	}
}

// P1401, P1403: a message of a newer ballot makes a Follower, who has heard of it, of each core; it forgets what it took.
func TestNewerBallot(t *testing.T) {
	for kind := ask; kind <= taken; kind++ {
		for what, x := range some(t) {
			x.Step(api.Msg{From: 2, To: 1, Kind: kind, Term: 11})
			if x.Term() != 11 || x.Role() != api.Follower || len(x.waits) > 0 {
				t.Errorf("P1401: %s: behind the kind %d of the ballot 11: term %d, role %d, %d wait", what, kind, x.Term(), x.Role(), len(x.waits))
			}
			for id := range 3 { // whatever is promised to that one
				x.Step(api.Msg{From: id, To: 1, Kind: promise, Term: 11, Terms: list(2), Entries: letters("y")})
				x.Step(api.Msg{From: id, To: 1, Kind: taken, Term: 11, Terms: list(11), Entries: letters("y")})
			}
			if x.Role() != api.Follower || x.Commit() != 0 {
				t.Errorf("P1403: %s: by what was promised to another one: role %d, commit %d", what, x.Role(), x.Commit())
			}
			checkLoaded(t, what, x)
		}
	}
}

// P1401: what is told as committed is learnt where it is next to what is known; what is proposed is voted for right behind that.
func TestOffers(t *testing.T) {
	x := newCore(t, 2, 1, 0, 1, 2)
	for _, c := range []struct {
		index, commit int
		letters       string
		term          int
		want, vote    string
	}{
		{1, 1, "", 9, "", ""},
		{1, 1, "a", 9, "", "a"},         // proposed
		{1, 1, "a", 9, "", "a"},         // again
		{1, 2, "ab", 9, "a", "b"},       // committed, and the next one
		{1, 1, "a", 9, "a", "b"},        // late: it is committed
		{1, 2, "a", 9, "a", "b"},        // nothing is proposed: the vote stays
		{2, 2, "c", 18, "a", "c"},       // another ballot's
		{2, 2, "b", 9, "a", "c"},        // the elder one's, late
		{4, 5, "xy", 18, "a", "c"},      // what is ahead is missing
		{1, 4, "abcd", 18, "abc", "d"},  // all of it
		{0, 5, "zabcd", 18, "abcd", ""}, // from ahead of base on
		{5, 5, "ef", 18, "abcd", "e"},   // one alone is proposed
	} {
		terms := list(c.term)
		if len(c.letters) <= c.commit-c.index {
			terms = nil
		}
		x.Step(api.Msg{From: 0, To: 2, Kind: offer, Term: c.term, Index: c.index, Commit: c.commit, Terms: terms, Entries: letters(c.letters)})
		out := x.Out()
		v, _ := x.open()
		if told(x) != c.want || v.Entry.Data != c.vote || x.Commit() != 1+len(c.want) {
			t.Errorf("behind %d: %q: %q, commit %d, a vote for %q, not %q, %q", c.index, c.letters, told(x), x.Commit(), v.Entry.Data, c.want, c.vote)
		}
		if len(out) != 1 || out[0].To != 0 || out[0].Kind != taken || out[0].Term != max(c.term, x.Term()) || out[0].Commit != x.Commit() || len(out[0].Entries) > 1+max(0, x.Commit()-c.commit) {
			t.Errorf("behind %d: %q: it is answered by %+v", c.index, c.letters, out)
		}
		checkLoaded(t, "offers", x)
	}
}

// P1403: a Candidate leads by promises of a quorum of members, of its ballot, each counted once; not by others'.
func TestPromisesCounted(t *testing.T) {
	x := newCore(t, 1, 0, upTo(5)...)
	stands(t, x, 0)
	term := x.Term()
	promises := func(id, term int) {
		x.Step(api.Msg{From: id, To: 1, Kind: promise, Term: term})
	}
	for _, id := range list(0, 0, 5, 8) {
		promises(id, term)
		if x.Role() != api.Candidate {
			t.Fatalf("P1403: behind a promise of %d: role %d", id, x.Role())
		}
	}
	stands(t, x, 0) // again: what was promised ahead does not count
	promises(3, term)
	promises(4, term)
	promises(3, x.Term())
	if x.Role() != api.Candidate {
		t.Fatalf("P1403: two of five: role %d", x.Role())
	}
	promises(4, x.Term())
	if x.Role() != api.Leader {
		t.Errorf("P1403: three of five: role %d", x.Role())
	}
	promises(2, x.Term())
	if x.Role() != api.Leader || len(x.waits) > 0 {
		t.Errorf("P1403: one more promise: role %d", x.Role())
	}
}

// P1403: what those who promise know to be committed the one that stands knows then, too; what one of them voted for is committed ahead of its lead.
func TestPromisesTell(t *testing.T) {
	x := newCore(t, 1, 2, upTo(5)...)
	stands(t, x, 0)
	x.Step(api.Msg{From: 0, To: 1, Kind: promise, Term: x.Term(), Index: 2, Commit: 3, Terms: list(9), Entries: letters("az")})
	if told(x) != "a" || x.Role() != api.Candidate {
		t.Fatalf("P1403: %q, role %d", told(x), x.Role())
	}
	x.Step(api.Msg{From: 3, To: 1, Kind: promise, Term: x.Term(), Index: 2, Commit: 4, Terms: list(8), Entries: letters("abc")})
	if told(x) != "ab" || x.Role() != api.Candidate || len(x.waits) != 1 || x.waits[0].Data != "c" {
		t.Fatalf("P1403: %q, role %d, %+v waits", told(x), x.Role(), x.waits)
	}
	takes(x, 1, 2, x.Term(), 4, "c")
	takes(x, 1, 4, x.Term(), 4, "c")
	if told(x) != "abc" || x.Role() != api.Leader {
		t.Errorf("P1403: %q, role %d", told(x), x.Role())
	}
}

// P1402, P1403: one that stands again, and hears that what it had found is committed, does not propose it once more.
func TestStandsAgain(t *testing.T) {
	x := newCore(t, 1, 0, 0, 1, 2)
	stands(t, x, 0)
	x.Step(api.Msg{From: 0, To: 1, Kind: promise, Term: x.Term(), Terms: list(1), Entries: letters("z")})
	if len(x.waits) != 1 {
		t.Fatalf("%d wait", len(x.waits))
	}
	stands(t, x, 0)
	x.Step(api.Msg{From: 2, To: 1, Kind: promise, Term: x.Term(), Commit: 1, Entries: letters("z")})
	if told(x) != "z" || x.Role() != api.Leader || len(x.waits) > 0 {
		t.Errorf("P1403: %q, role %d, %+v waits", told(x), x.Role(), x.waits)
	}
}

// W6: a Leader is thrifty: it tells everybody at every fourth tick that it leads, members at once what is new, and each one only what it may lack.
func TestThrift(t *testing.T) {
	g := newGroup(t, 4, 5, 0, 1, 2)
	id := g.calm()
	for range 10 {
		g.checkGoes(g.data())
	}
	x := g.cores[id]
	count := 0
	for range 12 {
		x.Tick(0)
		out := x.Out()
		count += len(out)
		for _, m := range out {
			want := 10 // of nodes that are not there it knows nothing
			if m.To < 4 {
				want = 0
			}
			if len(m.Entries) != want || m.Commit != 15 {
				t.Errorf("core %d is told %+v", m.To, m)
			}
		}
	}
	if count != 24 {
		t.Errorf("%d messages within 12 ticks", count)
	}
	other := (id + 1) % 3
	stands(t, g.cores[other], 0)
	g.settle(other)
	first := g.net[0].To
	for g.cores[other].Role() != api.Leader {
		g.deliver(0)
	}
	for _, m := range g.net { // the first one has promised, and told how far it is
		if m.Kind == offer && m.To < 4 && (m.To == first) != (len(m.Entries) == 0) {
			t.Errorf("core %d is told %+v", m.To, m)
		}
	}
}

// takes tells a core how far another one has come: what it knows to be committed, and what it voted for in that ballot.
func takes(x *Core, id, from, term, commit int, letter string) {
	m := api.Msg{From: from, To: id, Kind: taken, Term: term, Index: commit, Commit: commit, Entries: letters(letter)}
	if letter != "" {
		m.Terms = list(term)
	}
	x.Step(m)
}

// ledBy makes core 0 lead, by the promises of these; no message is left.
func ledBy(t *testing.T, x *Core, ids ...int) {
	t.Helper()
	stands(t, x, 0)
	for _, id := range ids {
		x.Step(api.Msg{From: id, To: 0, Kind: promise, Term: x.Term(), Index: x.Commit(), Commit: x.Commit()})
	}
	if x.Role() != api.Leader {
		t.Fatalf("role %d", x.Role())
	}
	x.Out()
}

// P1403: a Leader commits what three of five have, itself among them, as they say it in its ballot; what comes late, or is of no member, or of an elder ballot's vote, counts for nothing.
func TestTaken(t *testing.T) {
	x := newCore(t, 0, 0, upTo(5)...)
	ledBy(t, x, 1, 2)
	term := x.Term()
	for _, e := range letters("abc") {
		x.Propose(e)
	}
	takes(x, 0, 1, term, 0, "a")
	takes(x, 0, 1, term, 0, "") // late
	takes(x, 0, 7, term, 0, "a")
	takes(x, 0, 8, term, 1, "")
	takes(x, 0, 3, term-1, 0, "a")
	x.Step(api.Msg{From: 4, To: 0, Kind: taken, Term: term, Terms: list(term - 1), Entries: letters("a")})
	if x.Commit() != 0 {
		t.Errorf("P1403: two of five have it: commit %d", x.Commit())
	}
	takes(x, 0, 2, term, 0, "a")
	if x.Commit() != 1 || len(x.waits) != 2 {
		t.Errorf("P1403: three of five have one: commit %d, %d wait", x.Commit(), len(x.waits))
	}
	takes(x, 0, 3, term, 0, "a") // of the one ahead
	takes(x, 0, 4, term, 0, "a")
	if x.Commit() != 1 {
		t.Errorf("P1403: of the next one none has been told: commit %d", x.Commit())
	}
	takes(x, 0, 3, term, 1, "b")
	takes(x, 0, 4, term, 1, "b")
	if x.Commit() != 2 || x.Role() != api.Leader {
		t.Errorf("P1403: three of five have two: commit %d", x.Commit())
	}
}

// P1403: what a core said when this one led ahead counts for nothing.
func TestTakenAhead(t *testing.T) {
	x := newCore(t, 0, 0, upTo(5)...)
	ledBy(t, x, 1, 2)
	x.Propose(letters("a")[0])
	takes(x, 0, 1, x.Term(), 0, "a")
	first := x.Term()
	x.Step(api.Msg{From: 3, To: 0, Kind: taken, Term: first + 1})
	stands(t, x, 0)
	x.Step(api.Msg{From: 3, To: 0, Kind: promise, Term: x.Term(), Terms: list(first + 1), Entries: letters("z")})
	x.Step(api.Msg{From: 4, To: 0, Kind: promise, Term: x.Term()})
	takes(x, 0, 2, x.Term(), 0, "z")
	takes(x, 0, 3, first, 0, "z")
	takes(x, 0, 4, first+1, 0, "z")
	if x.Commit() != 0 || x.Role() != api.Candidate {
		t.Errorf("P1403: two of five have it: commit %d, role %d", x.Commit(), x.Role())
	}
	takes(x, 0, 4, x.Term(), 0, "z")
	if told(x) != "z" || x.Role() != api.Leader {
		t.Errorf("P1403: %q, role %d", told(x), x.Role())
	}
}

// P1401, P1403: all messages doubled, and delivered in any order, are as good.
func TestDoubledInAnyOrder(t *testing.T) {
	for seed := range 40 {
		x := picks(seed)
		g := newGroup(t, 5, 0, x.members(5)...)
		for round := range 120 {
			for id := range g.cores {
				g.tick(id, 7*id%10)
			}
			for id, c := range g.cores {
				if c.Role() == api.Leader && round%20 == 0 {
					g.propose(id, g.data())
					g.propose(id, g.data())
				}
			}
			for len(g.net) > 0 {
				k := x.next(len(g.net))
				if m := g.net[k]; x.next(2) == 0 {
					g.cores[m.To].Step(m)
					g.settle(m.To)
				}
				g.deliver(k)
			}
		}
		if len(g.all) < 6 {
			t.Errorf("seed %d: only %d are committed", seed, len(g.all))
		}
		g.calm()
	}
}

// P1401, P1403: messages that come late, those of ballots long gone among them, do no harm.
func TestLate(t *testing.T) {
	for seed := range 30 {
		x := picks(seed)
		g := newGroup(t, 4, 0, 0, 1, 2)
		var kept []api.Msg
		for range 8 {
			id := g.calm()
			g.propose(id, g.data())
			g.propose(id, g.data())
			kept = append(kept, g.net...)
			g.flow()
			for range 25 {
				g.tick((id+1)%4, x.next(10))
				g.tick((id+2)%4, x.next(10))
				kept = append(kept, g.net...)
				g.flow()
			}
			for range 30 {
				g.net = append(g.net, kept[x.next(len(kept))])
			}
			g.flow()
		}
		g.net = append(g.net, kept...)
		for len(g.net) > 0 {
			g.deliver(x.next(len(g.net)))
		}
		g.calm()
	}
}

// P1: no message makes a core panic, or send or save what may not be, whatever it says; what it saved it can be loaded from.
func TestAnyMessage(t *testing.T) {
	numbers := []int{math.MinInt, math.MinInt + 1, -1, 0, 1, 2, 3, 4, 5, 8, 9, 55, 56, 63, 64, 65, 1 << 40, math.MaxInt - 1, math.MaxInt}
	for seed := range 400 {
		x := picks(seed)
		number := func() int { return numbers[x.next(len(numbers))] }
		c := newCore(t, 1, x.next(8), x.members(4)...)
		for range 150 {
			m := api.Msg{From: x.next(5), To: 1, Gen: x.next(2), Kind: x.next(7), Term: c.Term() + x.next(10), Index: x.next(9), Last: x.next(4), Commit: x.next(9), Yes: x.next(2) == 0}
			for range x.next(4) {
				m.Entries = append(m.Entries, api.Entry{Kind: x.next(6), Client: 1, Seq: number(), Data: string(make([]byte, x.next(18))), Members: x.members(9), To: x.next(4)})
				m.Entries = append(m.Entries, letters("x")...)
			}
			for range x.next(3) {
				m.Terms = append(m.Terms, c.Term()+x.next(2))
			}
			switch x.next(12) {
			case 0:
				m.Term = number()
			case 1:
				m.Index, m.Last, m.Commit = number(), number(), number()
			case 2:
				m.Terms = append(m.Terms, number())
			case 3:
				m.Entries = append(m.Entries, api.Entry{Kind: number(), To: number(), Members: list(number(), number())})
			}
			c.Step(m)
			for range x.next(12) {
				c.Tick(number())
			}
			c.Propose(api.Entry{Kind: 1 + x.next(3), Client: 1, Seq: 1, Members: x.members(4), To: x.next(3)})
			c.Propose(letters("p")[0])
			conf.Members(c.Config())
			c.Entry(number())
			checkLoaded(t, "any message", c)
			for _, m := range c.Out() {
				checkSent(t, 1, m)
			}
		}
	}
}
