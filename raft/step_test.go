package raft

import (
	"math"
	"slices"
	"strconv"
	"testing"

	"synodal/api"
	"synodal/conf"
)

// some entries, one a letter.
func letters(text string) []api.Entry {
	var out []api.Entry
	for i, c := range text {
		out = append(out, api.Entry{Kind: api.KData, Client: 1, Seq: i + 1, Data: string(c)})
	}
	return out
}

// told is what a core's log is, by its letters.
func told(x *Core, base int) string {
	out := ""
	for i := base + 1; i <= lastOf(x, base); i++ {
		e, _ := x.Entry(i)
		out += e.Data
	}
	return out
}

// checkPassedOver says that a message does nothing.
func checkPassedOver(t *testing.T, what string, x *Core, m api.Msg) {
	t.Helper()
	was, role := x.Save(), x.Role()
	x.Step(m)
	if out := x.Out(); !slices.Equal(x.Save(), was) || x.Role() != role || len(out) > 0 {
		t.Errorf("P1202: %s: %+v is not passed over: %+v", what, m, out)
	}
}

// three are a Follower, a Candidate and a Leader, all of them core 1.
func three(t *testing.T) map[string]*Core {
	t.Helper()
	out := map[string]*Core{}
	for role, what := range []string{"a Follower", "a Candidate", "a Leader"} {
		x := newCore(t, 1, 0, 0, 1, 2)
		if role > 0 {
			stands(t, x, 0)
		}
		if role == api.Leader {
			x.Step(api.Msg{From: 2, To: 1, Kind: vote, Term: 1, Yes: true})
			x.Propose(letters("a")[0])
		}
		if x.Role() != role {
			t.Fatalf("role %d, not %d", x.Role(), role)
		}
		x.Out()
		out[what] = x
	}
	return out
}

// P1202: a message that is to another core, or of one's own, is passed over, of whatever kind and term.
func TestPassedOver(t *testing.T) {
	for what, x := range three(t) {
		for kind := range 17 {
			for _, term := range list(0, 1, 2, 9) {
				m := api.Msg{From: 2, Kind: kind, Term: term, Yes: true, Index: 0, Commit: 1, Terms: list(1), Entries: letters("x")}
				for _, to := range list(0, 2, 3, 8, 9, -1, math.MinInt, math.MaxInt) {
					m.To = to
					checkPassedOver(t, what+", to "+strconv.Itoa(to), x, m)
				}
				m.To = 1
				for _, from := range list(1, -1, 9, math.MinInt, math.MaxInt) {
					m.From = from
					checkPassedOver(t, what+", of "+strconv.Itoa(from), x, m)
				}
			}
		}
	}
}

// P1202: a message of an elder term changes nothing; one that wants an answer is told the newer term.
func TestElderTerm(t *testing.T) {
	for what, x := range three(t) {
		x.Step(api.Msg{From: 2, To: 1, Kind: vote, Term: 5})
		x.Out()
		was := x.Save()
		for kind := ask; kind <= taken; kind++ {
			for term := 1; term < 5; term++ {
				x.Step(api.Msg{From: 0, To: 1, Kind: kind, Term: term, Yes: true, Last: 3, Index: 0, Commit: 1, Terms: list(3), Entries: letters("x")})
				out := x.Out()
				if !slices.Equal(x.Save(), was) || x.Role() != api.Follower {
					t.Errorf("P1202: %s: a message of the kind %d, of an elder term, changes it", what, kind)
				}
				wants := kind == ask || kind == entries
				if wants != (len(out) == 1) || wants && (out[0].To != 0 || out[0].Term != 5 || out[0].Yes) {
					t.Errorf("P1202: %s: a message of the kind %d, of an elder term, is answered by %+v", what, kind, out)
				}
			}
		}
	}
}

// P1202, P1206: a message of a newer term makes a Follower of that term of each core.
func TestNewerTerm(t *testing.T) {
	for kind := ask; kind <= taken; kind++ {
		for what, x := range three(t) {
			x.Step(api.Msg{From: 0, To: 1, Kind: kind, Term: 7})
			if x.Term() != 7 || x.Role() != api.Follower {
				t.Errorf("P1202: %s: behind the kind %d of the term 7: term %d, role %d", what, kind, x.Term(), x.Role())
			}
			checkLoaded(t, what, x, 0)
		}
	}
}

// P1205: a core has one vote a term, and none for an elder log.
func TestVotes(t *testing.T) {
	x := newCore(t, 3, 2, 0, 1, 3)
	x.Step(api.Msg{From: 0, To: 3, Kind: entries, Term: 4, Index: 2, Commit: 2, Terms: list(2, 4, 4), Entries: letters("abc")})
	x.Out()
	for _, c := range []struct {
		from, term, last, of int
		want                 bool
	}{
		{1, 5, 4, 4, false}, {1, 5, 5, 3, false}, {1, 5, 60, 3, false}, {1, 5, 2, 0, false}, // elder
		{1, 5, 5, 4, true}, {1, 5, 5, 4, true}, {0, 5, 9, 4, false}, // the first one, and it again
		{0, 6, 6, 4, true}, {1, 6, 6, 5, false},
		{1, 7, 3, 5, true}, // shorter, of a newer term
	} {
		x.Step(api.Msg{From: c.from, To: 3, Kind: ask, Term: c.term, Index: c.last, Last: c.of})
		checkVote(t, "a log up to "+strconv.Itoa(c.last)+" of "+strconv.Itoa(c.of), x, c.from, c.term, c.want)
	}
}

// P1205: a Candidate leads by votes of a quorum of members, of its term, each counted once; not by others'.
func TestVotesCounted(t *testing.T) {
	x := newCore(t, 1, 0, 0, 1, 2, 3, 4)
	stands(t, x, 0)
	term := x.Term()
	for _, m := range []api.Msg{
		{From: 0, Term: term, Yes: true}, {From: 0, Term: term, Yes: true}, // twice
		{From: 5, Term: term, Yes: true}, {From: 8, Term: term, Yes: true}, // no members
		{From: 2, Term: term}, {From: 2, Term: term, Yes: true}, // it has said no
	} {
		m.To, m.Kind = 1, vote
		x.Step(m)
		if x.Role() != api.Candidate {
			t.Fatalf("P1205: behind %+v: role %d", m, x.Role())
		}
	}
	stands(t, x, 0) // again: what was said ahead does not count
	x.Step(api.Msg{From: 3, To: 1, Kind: vote, Term: term, Yes: true})
	x.Step(api.Msg{From: 4, To: 1, Kind: vote, Term: term, Yes: true})
	x.Step(api.Msg{From: 3, To: 1, Kind: vote, Term: x.Term(), Yes: true})
	if x.Role() != api.Candidate {
		t.Fatalf("P1205: two of five: role %d", x.Role())
	}
	x.Step(api.Msg{From: 4, To: 1, Kind: vote, Term: x.Term(), Yes: true})
	if x.Role() != api.Leader {
		t.Errorf("P1205: three of five: role %d", x.Role())
	}
}

// P1202, P1205: a Leader's entries: what is the same stays, what is not goes, what is missing is asked for; committed is what is surely the Leader's.
func TestEntries(t *testing.T) {
	x := newCore(t, 2, 1, 0, 1, 2)
	for _, c := range []struct {
		index, of, commit int
		terms             []int
		letters           string
		want              string
		wantCommit        int
		yes               bool
	}{
		{1, 0, 0, list(1, 1, 2), "abc", "abc", 1, true},
		{2, 1, 2, nil, "", "abc", 2, true},                                      // no more is committed than is said
		{2, 1, 40, nil, "", "abc", 2, true},                                     // nor than is surely the same
		{4, 1, 4, nil, "", "abc", 2, false},                                     // another term
		{5, 2, 5, list(2), "x", "abc", 2, false},                                // nothing stands there
		{1, 0, 2, list(1, 1), "ab", "abc", 2, true},                             // late: what stands behind stays
		{3, 1, 3, list(3, 3), "de", "abde", 3, true},                            // another one: it and all behind it go
		{1, 0, 3, list(1, 1, 2), "abc", "abc", 3, true},                         // again
		{1, 0, 9, list(1, 1, 3, 3, 3), "abdef", "abdef", 6, true},               // all of it
		{0, 0, 9, list(1), "z", "abdef", 6, false},                              // ahead of base
		{6, 3, 6, make([]int, 59), string(make([]byte, 59)), "abdef", 6, false}, // no room, no terms
	} {
		x.Step(api.Msg{From: 0, To: 2, Kind: entries, Term: 3, Index: c.index, Last: c.of, Commit: c.commit, Terms: c.terms, Entries: letters(c.letters)})
		out := x.Out()
		if told(x, 1) != c.want || x.Commit() != c.wantCommit {
			t.Errorf("behind %d: %q: %q, commit %d, not %q, %d", c.index, c.letters, told(x, 1), x.Commit(), c.want, c.wantCommit)
		}
		if len(out) != 1 || out[0].To != 0 || out[0].Yes != c.yes || out[0].Term != 3 {
			t.Errorf("behind %d: %q: it is answered by %+v", c.index, c.letters, out)
		}
		checkLoaded(t, "entries", x, 1)
	}
}

// P1205: what an elder term left is not committed because quorums have it, but by an entry of the Leader's own term.
func TestElderTermsEntries(t *testing.T) {
	g := newGroup(t, 5, 0, upTo(5)...)
	g.leads(0)
	g.only(0, 1)
	g.must(0, g.data()) // at 0 and 1, of the term 1
	g.flow()
	g.apart(0, 1)
	g.leads(4)
	g.only(4)
	g.must(4, g.data()) // at 4 alone, of a newer term
	g.lost = func(m api.Msg) bool { return m.From == 4 || m.To == 4 || m.Kind == entries }
	g.load(0)
	g.leads(0) // by 1, 2, 3
	x := g.cores[0]
	for id := 1; id <= 3; id++ { // these have what the term 1 left, and no more
		x.Step(api.Msg{From: id, To: 0, Kind: taken, Term: x.Term(), Yes: true, Index: 1})
	}
	if x.Commit() != 0 || x.Role() != api.Leader {
		t.Errorf("P1205: role %d, what an elder term left is committed up to %d", x.Role(), x.Commit())
	}
	x.Step(api.Msg{From: 1, To: 0, Kind: taken, Term: x.Term(), Yes: true, Index: 2})
	x.Step(api.Msg{From: 2, To: 0, Kind: taken, Term: x.Term(), Yes: true, Index: 2})
	if x.Commit() != 2 {
		t.Errorf("P1205: with one of its own the Leader has committed up to %d", x.Commit())
	}
}

// ledBy makes a core 0 lead, by the votes of these; no message is left.
func ledBy(t *testing.T, x *Core, ids ...int) {
	t.Helper()
	stands(t, x, 0)
	for _, id := range ids {
		x.Step(api.Msg{From: id, To: 0, Kind: vote, Term: x.Term(), Yes: true})
	}
	if x.Role() != api.Leader {
		t.Fatalf("role %d", x.Role())
	}
	x.Out()
}

// takes tells a Leader that a core has its log up to there.
func takes(x *Core, id, term, index int) {
	x.Step(api.Msg{From: id, To: 0, Kind: taken, Term: term, Yes: true, Index: index})
}

// P1205: a Leader commits what three of five have, itself among them, as they say it in its term; what comes late counts for nothing.
func TestTaken(t *testing.T) {
	x := newCore(t, 0, 0, upTo(5)...)
	ledBy(t, x, 1, 2)
	for _, e := range letters("abc") {
		x.Propose(e)
	}
	takes(x, 1, 1, 3)
	takes(x, 1, 1, 1) // late
	takes(x, 1, 1, 3)
	takes(x, 1, 1, 2) // late again
	takes(x, 7, 1, 3) // no member
	if x.Commit() != 0 {
		t.Errorf("P1205: two of five have it: commit %d", x.Commit())
	}
	takes(x, 2, 1, 2)
	if x.Commit() != 2 {
		t.Errorf("P1205: three of five have two: commit %d", x.Commit())
	}
	takes(x, 2, 1, 3)
	if x.Commit() != 3 {
		t.Errorf("P1205: three of five have all: commit %d", x.Commit())
	}
}

// P1205: what a core said in an elder term, and what it said when this one led ahead, counts for nothing: its log may be another one since.
func TestTakenInElderTerm(t *testing.T) {
	x := newCore(t, 0, 0, upTo(5)...)
	ledBy(t, x, 1, 2)
	x.Propose(letters("a")[0])
	x.Propose(letters("b")[0])
	takes(x, 1, 1, 2)
	x.Step(api.Msg{From: 3, To: 0, Kind: entries, Term: 2, Terms: list(2), Entries: letters("z")})
	ledBy(t, x, 3, 4)
	if told(x, 0) != "z" || x.Term() != 3 || lastOf(x, 0) != 2 {
		t.Fatalf("%q, term %d, the log up to %d", told(x, 0), x.Term(), lastOf(x, 0))
	}
	takes(x, 2, 3, 2)
	for term := 1; term <= 2; term++ {
		takes(x, 3, term, 2)
		takes(x, 4, term, 2)
	}
	if x.Commit() != 0 {
		t.Errorf("P1205: two of five have it: commit %d", x.Commit())
	}
	takes(x, 4, 3, 2)
	if x.Commit() != 2 {
		t.Errorf("P1205: three of five have it: commit %d", x.Commit())
	}
}

// P1206: one whose bid was spoilt stands again at the next tick; one that was beaten waits, whatever else it is told.
func TestBids(t *testing.T) {
	for what, c := range map[string]struct {
		told []api.Msg
		want bool
	}{
		"nothing":                      {nil, false},
		"a vote that is gone":          {[]api.Msg{{From: 1, Kind: vote, Term: 1, Index: spoilt}}, true},
		"a better log":                 {[]api.Msg{{From: 1, Kind: vote, Term: 1, Index: beaten}}, false},
		"both":                         {[]api.Msg{{From: 2, Kind: vote, Term: 1, Index: beaten}, {From: 1, Kind: vote, Term: 1, Index: spoilt}}, false},
		"a newer term":                 {[]api.Msg{{From: 1, Kind: vote, Term: 6, Index: spoilt}}, true},
		"a newer term, one that leads": {[]api.Msg{{From: 1, Kind: vote, Term: 6, Index: spoilt}, {From: 2, Kind: vote, Term: 6, Index: beaten}}, false},
		"another one, as good":         {[]api.Msg{{From: 1, Kind: ask, Term: 6}}, false},
		"another one, elder":           {[]api.Msg{{From: 1, Kind: ask, Term: 6, Last: -1}}, true},
		"a Leader of the term":         {[]api.Msg{{From: 1, Kind: vote, Term: 1, Index: spoilt}, {From: 1, Kind: entries, Term: 1}}, false},
		"a Leader of a newer one":      {[]api.Msg{{From: 1, Kind: entries, Term: 6}}, false},
		"a bid long gone":              {[]api.Msg{{From: 1, Kind: entries, Term: 6}, {From: 1, Kind: vote, Term: 6, Index: spoilt}}, false},
	} {
		x := newCore(t, 0, 0, upTo(5)...)
		stands(t, x, 9)
		for _, m := range c.told {
			m.To = 0
			x.Step(m)
		}
		term := x.Term()
		x.Tick(9)
		if stands := x.Term() > term; stands != c.want {
			t.Errorf("told %s: %v", what, stands)
		}
	}
}

// P1202, P1205: all messages doubled, and delivered in any order, are as good.
func TestDoubledInAnyOrder(t *testing.T) {
	for seed := range 30 {
		x := picks(seed)
		g := newGroup(t, 5, 0, 0, 1, 2)
		for round := range 120 {
			for id := range g.cores {
				g.tick(id, 7*id%10)
			}
			for id, c := range g.cores {
				if c.Role() == api.Leader && round%20 == 0 {
					g.propose(id, g.change(x.members(5)...))
					g.propose(id, g.data())
				}
			}
			for len(g.net) > 0 {
				k := x.next(len(g.net))
				if m := g.net[k]; x.next(2) == 0 {
					g.cores[m.To].Step(m)
					g.settle(m.To)
				}
				g.deliver(k)
			}
		}
		if len(g.all) < 5 {
			t.Errorf("seed %d: only %d are committed", seed, len(g.all))
		}
		g.calm()
	}
}

// P1202, P1205: messages that come late, those of terms long gone among them, do no harm.
func TestLate(t *testing.T) {
	for seed := range 20 {
		x := picks(seed)
		g := newGroup(t, 4, 0, 0, 1, 2)
		var kept []api.Msg
		for range 8 {
			id := g.calm()
			g.propose(id, g.change(x.members(4)...))
			g.propose(id, g.data())
			kept = append(kept, g.net...)
			g.flow()
			for range 25 {
				g.tick((id+1)%4, x.next(10))
				g.tick((id+2)%4, x.next(10))
				kept = append(kept, g.net...)
				g.flow()
			}
			for range 30 {
				g.net = append(g.net, kept[x.next(len(kept))])
			}
			g.flow()
		}
		g.net = append(g.net, kept...)
		for len(g.net) > 0 {
			g.deliver(x.next(len(g.net)))
		}
		g.calm()
	}
}

// P1: no message makes a core panic, or send or save what may not be, whatever it says.
func TestAnyMessage(t *testing.T) {
	numbers := []int{math.MinInt, math.MinInt + 1, -1, 0, 1, 2, 3, 4, 5, 8, 9, 55, 56, 63, 64, 65, 1 << 40, math.MaxInt - 1, math.MaxInt}
	for seed := range 300 {
		x := picks(seed)
		number := func() int { return numbers[x.next(len(numbers))] }
		c := newCore(t, 1, x.next(8), x.members(4)...)
		for range 150 {
			m := api.Msg{From: x.next(5), To: 1, Gen: x.next(2), Kind: x.next(7), Term: c.Term() + x.next(3), Index: x.next(9), Last: x.next(4), Commit: x.next(9), Yes: x.next(2) == 0}
			for range x.next(4) {
				m.Terms = append(m.Terms, 1+x.next(4))
				m.Entries = append(m.Entries, api.Entry{Kind: x.next(6), Client: number(), Data: string(make([]byte, x.next(18))), Members: x.members(9), To: x.next(4)})
			}
			slices.Sort(m.Terms)
			switch x.next(12) {
			case 0:
				m.Term = number()
			case 1:
				m.Index, m.Last, m.Commit = number(), number(), number()
			case 2:
				m.Terms = append(m.Terms, number())
			case 3:
				m.Entries = append(m.Entries, api.Entry{Kind: number(), To: number(), Members: list(number(), number())})
			}
			c.Step(m)
			for range x.next(12) {
				c.Tick(number())
			}
			c.Propose(api.Entry{Kind: 1 + x.next(3), Client: 1, Seq: 1, Members: x.members(4), To: x.next(3)})
			c.Propose(api.Entry{Kind: api.KData, Client: 1, Seq: 1})
			if b := c.Save(); len(b) > 11000 {
				t.Fatalf("Save: %d bytes", len(b))
			}
			conf.Members(c.Config())
			c.Entry(number())
			c.Commit()
			c.Sealed()
			Load(1, c.Save())
			c.Out()
		}
	}
}
