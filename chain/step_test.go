package chain

import (
	"math"
	"slices"
	"strconv"
	"testing"

	"synodal/api"
	"synodal/conf"
	"synodal/wire"
)

// The kinds of an instance's messages.
const (
	ask     = 1
	promise = 2
	offer   = 3
	taken   = 4
)

// told is what a core knows to be committed: letters, and a bar where an instance ended.
func told(x *Core) string {
	out := ""
	for i := x.base + 1; i <= x.Commit(); i++ {
		e, _ := x.Entry(i)
		if e.Kind == api.KConf {
			e.Data = "|"
		}
		out += e.Data
	}
	return out
}

// some are a Follower, a Candidate, and a Leader that has proposed a KConf, in the first instance and in the third one, all of them core 1.
func some(t *testing.T) map[string]*Core {
	t.Helper()
	out := map[string]*Core{}
	for at, what := range []string{"a Follower", "a Candidate", "a Leader"} {
		for _, number := range list(1, 3) {
			x := newCore(t, 1, 0, 0, 1, 2)
			if number == 3 {
				l := []api.Entry{change(1, 2), letters("a")[0], change(0, 1, 2)}
				x.Step(api.Msg{From: 0, To: 1, Kind: story, Term: 2 << ballotBits, Commit: 3, Entries: l})
			}
			if at > 0 {
				stands(t, x, 0)
			}
			if at == 2 {
				x.Step(api.Msg{From: 2, To: 1, Kind: promise, Term: x.Term(), Index: x.Commit(), Commit: x.Commit()})
				x.Propose(change(0, 1))
			}
			if want := list(api.Follower, api.Candidate, api.Leader)[at]; x.Role() != want || x.Instances() != number || x.Commit() != list(0, 0, 0, 3)[number] {
				t.Fatalf("role %d, not %d; %d instances, commit %d", x.Role(), want, x.Instances(), x.Commit())
			}
			x.Out()
			x.knows = [api.MaxNodes]int{}
			out[what+" of instance "+strconv.Itoa(number)] = x
		}
	}
	return out
}

// checkSame says that a message changes nothing that lasts, and makes a core neither lead nor follow; it tells what is answered.
func checkSame(t *testing.T, what string, x *Core, m api.Msg) []api.Msg {
	t.Helper()
	was, role := x.Save(), x.Role()
	x.Step(m)
	if !slices.Equal(x.Save(), was) || x.Role() != role {
		t.Errorf("P1501: %s: %+v changes it", what, m)
	}
	return x.Out()
}

// checkPassedOver says that a message does nothing.
func checkPassedOver(t *testing.T, what string, x *Core, m api.Msg) {
	t.Helper()
	knows := x.knows
	if out := checkSame(t, what, x, m); len(out) > 0 || x.knows != knows {
		t.Errorf("P1501: %s: %+v is not passed over: %+v", what, m, out)
	}
}

// P1501: a message that is to another core, or of one's own, or that nobody could send, is passed over, of whatever kind, instance and term.
func TestPassedOver(t *testing.T) {
	for what, x := range some(t) {
		for kind := range 17 {
			for _, term := range list(0, 1, 2, 11, 1<<ballotBits, 2<<ballotBits+11, 3<<ballotBits+20, -1, math.MinInt) {
				m := api.Msg{From: 2, Kind: kind, Term: term, Commit: 5, Yes: true, Entries: []api.Entry{change(1, 2), change(2), change(1, 2), change(2)}}
				for _, to := range list(0, 2, 3, 8, 9, -1, math.MinInt, math.MaxInt) {
					m.To = to
					checkPassedOver(t, what+", to "+strconv.Itoa(to), x, m)
				}
				m.To = 1
				for _, from := range list(1, -1, 9, math.MinInt, math.MaxInt) {
					m.From = from
					checkPassedOver(t, what+", of "+strconv.Itoa(from), x, m)
				}
				m.From = 2
				if kind == 0 || kind == 16 || kind > place || term < 0 {
					checkPassedOver(t, what+", as it may not be", x, m)
				}
				m.Entries[0].Kind = 5
				checkPassedOver(t, what+", with what is no entry", x, m)
			}
		}
	}
}

// A message of an elder instance, of whatever kind and ballot, changes nothing: its sender is told what it lacks, unless it is known to know that.
func TestElderInstance(t *testing.T) {
	for what, x := range some(t) {
		if x.Instances() == 1 {
			continue
		}
		for kind := ask; kind < story; kind++ {
			for _, term := range list(1, 2, 11, 1<<30, 1<<ballotBits, 1<<ballotBits+2, 1<<ballotBits+110) {
				for commit := range 3 {
					x.knows[2] = 0
					m := api.Msg{From: 2, To: 1, Kind: kind, Term: term, Index: 0, Commit: commit, Terms: list(term), Entries: letters("xyz")}
					out := checkSame(t, what, x, m)
					if len(out) != 1 || out[0].Kind != story || out[0].To != 2 || out[0].Index != commit || len(out[0].Entries) != 3-commit || out[0].Term != x.Term() || out[0].Commit != 3 {
						t.Errorf("%s: %+v is answered by %+v", what, m, out)
					}
				}
				x.knows[2] = 3
				checkPassedOver(t, what, x, api.Msg{From: 2, To: 1, Kind: kind, Term: term, Commit: 1, Terms: list(term), Entries: letters("xyz")})
			}
		}
	}
}

// A message of a later instance than a core knows of changes nothing, of whatever kind: it asks to be told what it lacks.
func TestLaterInstance(t *testing.T) {
	for what, x := range some(t) {
		for kind := ask; kind < story; kind++ {
			for _, term := range list(3<<ballotBits+2, 3<<ballotBits+11, 50<<ballotBits+2, math.MaxInt) {
				m := api.Msg{From: 2, To: 1, Kind: kind, Term: term, Index: x.Commit(), Commit: 9, Terms: list(term), Entries: letters("xyz")}
				out := checkSame(t, what, x, m)
				if len(out) != 1 || out[0].Kind != place || !out[0].Yes || out[0].To != 2 || out[0].Commit != x.Commit() || out[0].Term != x.Term() {
					t.Errorf("%s: %+v is answered by %+v", what, m, out)
				}
			}
		}
	}
}

// P1501: in one instance a message of an elder term changes nothing; one of a newer term makes a Follower, who has heard of it, of each core.
func TestTermsOfOneInstance(t *testing.T) {
	for what, x := range some(t) {
		first := x.last.termOf(0)
		x.Step(api.Msg{From: 2, To: 1, Kind: taken, Term: first + 50})
		if x.Term() != first+50 || x.Role() != api.Follower {
			t.Errorf("P1501: %s: term %d, role %d", what, x.Term(), x.Role())
		}
		x.Out()
		for kind := ask; kind <= taken; kind++ {
			for _, ballot := range list(2, 11, 47) {
				m := api.Msg{From: 2, To: 1, Kind: kind, Term: first + ballot, Index: x.Commit(), Commit: x.Commit() + 1, Terms: list(ballot), Entries: letters("xy")}
				for _, back := range checkSame(t, what, x, m) {
					if back.To != 2 || back.Term != first+50 {
						t.Errorf("P1501: %s: %+v is answered by %+v", what, m, back)
					}
				}
			}
		}
		checkPassedOver(t, what, x, api.Msg{From: 2, To: 1, Kind: offer, Term: first + 51, Index: x.Commit(), Commit: x.Commit() + 1, Entries: letters("xy")})
		x.Step(api.Msg{From: 2, To: 1, Kind: offer, Term: first + 56, Index: x.Commit(), Commit: x.Commit() + 1, Entries: letters("x")})
		if x.Term() != first+56 || x.Commit() != list(0, 1, 0, 4)[x.Instances()] {
			t.Errorf("P1501: %s: term %d, commit %d", what, x.Term(), x.Commit())
		}
		checkLoaded(t, what, x)
	}
}

// A story is taken where it is next to what is known, up to the last end that it tells, and as far as there is nothing in it that no instance makes; it is answered by how far the core knows then.
func TestStory(t *testing.T) {
	bar := func(members ...int) []api.Entry { return []api.Entry{change(members...)} }
	migrate := []api.Entry{{Kind: api.KMigrate, Client: 1, Seq: 1, To: 1}}
	x := newCore(t, 2, 1, 0, 1, 2)
	x.Step(api.Msg{From: 0, To: 2, Kind: offer, Term: 9, Index: 1, Commit: 3, Terms: list(9), Entries: letters("abz")})
	if told(x) != "ab" {
		t.Fatal(told(x))
	}
	x.Out()
	for _, c := range []struct {
		index   int
		entries []api.Entry
		want    string
		number  int
	}{
		{1, nil, "ab", 1},
		{1, letters("ab"), "ab", 1},
		{3, letters("cd"), "ab", 1},                          // no end
		{4, bar(1), "ab", 1},                                 // what is ahead is missing
		{3, bar(0, 1, 2), "ab", 1},                           // the same members
		{3, bar(2, 1), "ab", 1},                              // members that may not be
		{3, slices.Concat(migrate, bar(1)), "ab", 1},         // behind a seal nothing is
		{3, slices.Concat([]api.Entry{{}}, bar(1)), "ab", 1}, // a filler
		{math.MinInt, bar(1), "ab", 1},                       // from nowhere
		{math.MaxInt, bar(1), "ab", 1},                       //
		{-1, bar(1), "ab", 1},                                // from ahead of base, and too short
		{2, slices.Concat(letters("bc"), bar(2, 3), letters("d")), "abc|", 2},    // what is known, and an end, and something
		{2, slices.Concat(letters("bc"), bar(2, 3)), "abc|", 2},                  // once more
		{5, bar(2, 3), "abc|", 2},                                                // the same members
		{5, slices.Concat(bar(3), letters("e"), bar(0, 1, 2)), "abc||e|", 4},     // two ends, back to the first ones
		{1, slices.Concat(letters("abc"), bar(2, 3), bar(3)), "abc||e|", 4},      // late
		{8, slices.Concat(bar(4), letters("f"), migrate, bar(5)), "abc||e||", 5}, // as far as may be
	} {
		x.Step(api.Msg{From: 0, To: 2, Kind: story, Term: 9 << ballotBits, Index: c.index, Commit: 20, Entries: c.entries})
		out := x.Out()
		if told(x) != c.want || x.Instances() != c.number || x.Commit() != 1+len(c.want) {
			t.Errorf("behind %d, %+v: %q, %d instances, not %q, %d", c.index, c.entries, told(x), x.Instances(), c.want, c.number)
		}
		if answer := out[len(out)-1]; answer.Kind != place || answer.Yes || answer.To != 0 || answer.Commit != x.Commit() || answer.Term != x.Term() {
			t.Errorf("behind %d, %+v: it is answered by %+v", c.index, c.entries, answer)
		}
		checkLoaded(t, "stories", x)
	}
	if _, at := voteOf(t, x); at != 0 || !conf.Same(x.Config(), api.Config{New: list(4)}) {
		t.Errorf("P1501: %v, a vote at %d", x.Config(), at)
	}
}

// P1502: no entry comes to stand above 56, by whatever story.
func TestStoryBounds(t *testing.T) {
	for _, base := range list(54, 55, 56, 60, 64) {
		x := newCore(t, 2, base, 0, 1, 2)
		x.Step(api.Msg{From: 0, To: 2, Kind: story, Term: 1 << ballotBits, Index: base, Commit: base + 3, Entries: []api.Entry{change(1), change(2), change(3)}})
		if want := max(base, 56); x.Commit() != want || x.Instances() != 1+want-base {
			t.Errorf("behind %d: commit %d, %d instances", base, x.Commit(), x.Instances())
		}
		checkLoaded(t, "bounds", x)
	}
}

// One that asks to be told is, behind how far it says that it knows, though it said more ahead; one that does not ask is not.
func TestPlace(t *testing.T) {
	for what, x := range some(t) {
		for _, commit := range list(3, 0, 1, 2, 9, -1, math.MinInt) {
			checkSame(t, what, x, api.Msg{From: 2, To: 1, Kind: place, Term: 0, Commit: 3})
			out := checkSame(t, what, x, api.Msg{From: 2, To: 1, Kind: place, Term: 0, Commit: commit, Yes: true})
			if wants := x.Instances() == 3 && commit < 3; wants != (len(out) == 1) || wants && (out[0].Kind != story || out[0].To != 2 || out[0].Index != max(0, commit) || len(out[0].Entries) != 3-max(0, commit)) {
				t.Errorf("%s: asked for behind %d: %+v", what, commit, out)
			}
			x.knows[2] = 0
			if out := checkSame(t, what, x, api.Msg{From: 2, To: 1, Kind: place, Term: 0, Commit: commit}); len(out) > 0 {
				t.Errorf("%s: told of %d: %+v", what, commit, out)
			}
		}
	}
}

// P1501, P1503: all messages doubled, and delivered in any order, are as good.
func TestDoubledInAnyOrder(t *testing.T) {
	for seed := range 30 {
		x := picks(seed)
		g := newGroup(t, 5, 0, x.members(5)...)
		for round := range 160 {
			for id := range g.cores {
				g.tick(id, 7*id%10)
			}
			for id, c := range g.cores {
				if c.Role() == api.Leader && round%20 == 0 {
					g.propose(id, g.data())
					g.propose(id, g.change(x.members(5)...))
				}
			}
			for len(g.net) > 0 {
				k := x.next(len(g.net))
				if m := g.net[k]; x.next(2) == 0 {
					g.cores[m.To].Step(m)
					g.settle(m.To)
				}
				g.deliver(k)
			}
		}
		if slices.Max(g.instances) < 4 {
			t.Errorf("seed %d: only %d instances", seed, slices.Max(g.instances))
		}
		g.calm()
	}
}

// P1501, P1503: messages that come late, those of instances long at their end among them, do no harm.
func TestLate(t *testing.T) {
	for seed := range 20 {
		x := picks(seed)
		g := newGroup(t, 5, 0, 0, 1, 2)
		var kept []api.Msg
		for range 6 {
			id := g.calm()
			g.propose(id, g.data())
			g.propose(id, g.change(x.members(5)...))
			kept = append(kept, g.net...)
			for range 25 {
				for at := range g.cores {
					g.tick(at, x.next(10))
				}
				kept = append(kept, g.net...)
				g.flow()
			}
			for range 40 {
				g.net = append(g.net, kept[x.next(len(kept))])
			}
			g.flow()
		}
		for range 500 {
			g.net = append(g.net, kept[x.next(len(kept))])
		}
		for len(g.net) > 0 {
			g.deliver(x.next(len(g.net)))
		}
		g.calm()
		if slices.Max(g.instances) < 4 {
			t.Errorf("seed %d: only %d instances", seed, slices.Max(g.instances))
		}
	}
}

// anyEntry is some entry, mostly such as may be.
func anyEntry(x *picks, number func() int) api.Entry {
	switch x.next(8) {
	case 0:
		return api.Entry{Kind: x.next(6), Client: 1, Seq: number(), Data: string(make([]byte, x.next(18))), Members: x.members(9), To: x.next(4)}
	case 1, 2, 3:
		return change(x.members(4)...)
	}
	return letters("x")[0]
}

// anyMsg is some message to a core, of an instance near by.
func anyMsg(x *picks, c *Core, number func() int) api.Msg {
	ballot := c.last.Core.Term() + x.next(10)
	m := api.Msg{From: x.next(5), To: 1, Gen: x.next(2), Kind: x.next(11), Term: c.last.termOf(ballot), Index: x.next(9), Last: x.next(4), Commit: x.next(9), Yes: x.next(2) == 0}
	if x.next(2) == 0 {
		m.Index = c.Commit()
		m.Commit = m.Index + x.next(3)
	}
	for range x.next(6) {
		m.Entries = append(m.Entries, anyEntry(x, number))
	}
	for range x.next(3) {
		m.Terms = append(m.Terms, ballot-x.next(2))
	}
	switch x.next(12) {
	case 0:
		m.Term = number()
	case 1:
		m.Index, m.Last, m.Commit = number(), number(), number()
	case 2:
		m.Terms = append(m.Terms, number())
	case 3:
		m.Entries = append(m.Entries, api.Entry{Kind: number(), To: number(), Members: list(number(), number())})
	case 4:
		m.Term += 1 << ballotBits
	case 5:
		m.Term -= 1 << ballotBits
	}
	return m
}

// P1: no message makes a core panic, or send or save what may not be, whatever it says; what it saved it can be loaded from.
func TestAnyMessage(t *testing.T) {
	numbers := []int{math.MinInt, math.MinInt + 1, -1, 0, 1, 2, 3, 4, 5, 8, 9, 55, 56, 63, 64, 65, 1 << 35, 1 << 40, math.MaxInt - 1, math.MaxInt}
	instances := 0
	for seed := range 300 {
		x := picks(seed)
		number := func() int { return numbers[x.next(len(numbers))] }
		c := newCore(t, 1, x.next(8), x.members(4)...)
		for range 150 {
			c.Step(anyMsg(&x, c, number))
			for range x.next(12) {
				c.Tick(number())
			}
			c.Propose(api.Entry{Kind: 1 + x.next(3), Client: 1, Seq: 1, Members: x.members(4), To: x.next(3)})
			c.Propose(letters("p")[0])
			conf.Members(c.Config())
			c.Entry(number())
			checkLoaded(t, "any message", c)
			for _, m := range c.Out() {
				if _, e := wire.EncodeMsg(m); e != api.OK {
					t.Fatal(e)
				}
				checkSent(t, 1, m)
			}
		}
		instances += c.Instances()
	}
	if instances < 1500 {
		t.Errorf("too little is asked: %d instances", instances)
	}
}
