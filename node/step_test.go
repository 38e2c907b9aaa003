package node

import (
	"fmt"
	"slices"
	"strings"
	"testing"

	"synodal/api"
	"synodal/core"
	"synodal/wire"
)

// told is what a node tells of what it knows.
func told(n *Node) string {
	return fmt.Sprint(n.Commit(), n.log, n.Read(), n.Gens(), n.Gen())
}

// state is all that a node tells, but for what it sends, with what its engine is.
func state(n *Node) string {
	return told(n) + fmt.Sprint(n.Leads(), n.Members(), n.engine.Save(), n.engine.Role(), n.life())
}

// stamped is the n-th message of its sender's in a life.
func stamped(m api.Msg, life, n int) api.Msg {
	m.Config.Old = list(life, n)
	return m
}

// does says that a node takes a message, that nothing is changed by it that is seen, and that these are the kinds of what it sends then, to the message's sender alone.
func does(t *testing.T, n *Node, m api.Msg, kinds ...int) {
	t.Helper()
	was := state(n)
	if e := n.Step(m); e != api.OK {
		t.Fatalf("P2002: Step(%+v): %v", m, e)
	}
	if now := state(n); now != was {
		t.Fatalf("P2002: Step(%+v): it was %s, and is %s", m, was, now)
	}
	var sent []int
	for _, a := range n.Out() {
		if sent = append(sent, a.Kind); a.To != m.From || a.Gen != n.Gen().N {
			t.Fatalf("P2002: Step(%+v): it sends %+v", m, a)
		}
	}
	if !slices.Equal(sent, kinds) {
		t.Fatalf("P2002: Step(%+v): it sends the kinds %v, not %v", m, sent, kinds)
	}
}

// wise is a world of three calm nodes that have seen a migration.
func wise(t *testing.T, kind int) *world {
	t.Helper()
	w := newWorld(t, 3, kind, 0, 1, 2)
	w.calm()
	w.goes(w.data())
	w.goes(w.migrate(3 - kind))
	w.calm()
	w.goes(w.data())
	return w
}

// posts are messages that engines of a kind send one another, as these nodes sent them while they did a bit.
func posts(t *testing.T, kind int) []api.Msg {
	t.Helper()
	w := newWorld(t, 3, kind, 0, 1, 2)
	var out []api.Msg
	w.lost = func(m api.Msg) bool {
		out = append(out, m)
		return false
	}
	w.rounds(30)
	w.goes(w.data())
	if len(out) < 40 {
		t.Fatalf("hardly asked: %d messages", len(out))
	}
	return out
}

// P2002: a message that is not to it is ErrArg, and was not taken: it may yet come to the one that it is to.
func TestStepArg(t *testing.T) {
	for _, kind := range kinds() {
		n := newNode(t, newTape(t), 1, generation(kind, 0, 1, 2))
		was, ops := state(n), n.tape.Ops()
		for i, m := range posts(t, kind) {
			for _, to := range list(-1<<63, -1, 0, 2, 3, 8, 9, 10, 1<<40) {
				m.To = to
				if e := n.Step(m); e != api.ErrArg {
					t.Fatalf("P2002: Step of a message to %d: %v", to, e)
				}
			}
			if state(n) != was || len(n.Out()) > 0 || n.tape.Ops() != ops {
				t.Fatalf("P5: message %d changed something", i)
			}
		}
		m := stamped(api.Msg{From: 0, To: 2, Kind: greeting, Gen: 1, Commit: 7}, 1, 1)
		if e := n.Step(m); e != api.ErrArg {
			t.Errorf("P2002: %v", e)
		}
		m.To = 1
		does(t, n, m, greeting)
	}
}

// P2002, P8: what no other node sent, or none of this kind, changes nothing, and is answered by nothing.
func TestStepPassedOver(t *testing.T) {
	for _, kind := range kinds() {
		w := wise(t, kind)
		for _, n := range w.nodes {
			number := 1 << 20
			for i, m := range append(posts(t, kind), posts(t, 3-kind)...) {
				if i%5 > 0 {
					continue
				}
				for _, gen := range list(-1, 0, 1, 2, 3, 1<<40) {
					number++
					m.To, m.Gen = n.id, gen
					for _, from := range list(n.id, -1<<63, -1, 9, 10, 1<<40) {
						m.From = from
						does(t, n, stamped(m, 9, number))
					}
					m.From = (n.id + 1) % 3
					for _, stamp := range [][]int{nil, list(9), list(9, number, 1), list(0, number), list(9, 0), list(-1, -1), list(number, -1<<63)} {
						m.Config.Old = stamp
						does(t, n, m)
					}
				}
			}
			far := stamped(api.Msg{From: (n.id + 1) % 3, To: n.id, Gen: 2, Kind: story}, 9, 1<<30)
			for range api.MaxLog + 1 {
				far.Entries = append(far.Entries, w.data())
			}
			does(t, n, far)
			far.Entries = []api.Entry{{Kind: 5}}
			does(t, n, far)
			far.Entries, far.Kind = nil, 16
			does(t, n, far)
		}
	}
}

// P2002: a message of an elder generation does nothing, but that its sender is told what it lacks.
func TestStepElder(t *testing.T) {
	for _, kind := range kinds() {
		w := wise(t, kind)
		for id, n := range w.nodes {
			for i, m := range append(posts(t, kind), posts(t, 3-kind)...) {
				m.From, m.To = (id+1)%3, id
				for _, gen := range list(1, 0, -1, -1<<40) {
					m.Gen = gen
					want := []int{story}
					if m.Kind == story || m.Kind == greeting && m.Commit == n.Commit() {
						want = nil
					}
					does(t, n, stamped(m, 100+i, 9-gen%7), want...)
				}
			}
		}
	}
}

// P2002: a message of a generation that it does not know of does nothing; its sender is asked what it knows.
func TestStepNewer(t *testing.T) {
	for _, kind := range kinds() {
		w := wise(t, kind)
		for id, n := range w.nodes {
			for i, m := range append(posts(t, kind), posts(t, 3-kind)...) {
				if m.Kind >= greeting {
					continue
				}
				m.From, m.To = (id+2)%3, id
				for k, gen := range list(3, 4, 60, 1<<40) {
					m.Gen = gen
					does(t, n, stamped(m, 100+i, 9+k), greeting)
				}
			}
		}
	}
}

// P2002: who greets is told what it lacks, or is greeted; who knows as much is not answered.
func TestGreeting(t *testing.T) {
	for _, kind := range kinds() {
		w := wise(t, kind)
		n := w.nodes[0]
		number := 1 << 20
		for from := 1; from < api.MaxNodes; from++ {
			for commit := -2; commit < n.Commit()+5; commit++ {
				number++
				m := stamped(api.Msg{From: from, To: 0, Gen: 2, Kind: greeting, Commit: commit}, 50, number)
				switch {
				case commit < n.Commit():
					does(t, n, m, story)
				case commit == n.Commit():
					does(t, n, m)
				default:
					does(t, n, m, greeting)
				}
			}
		}
	}
}

// P2002: a message that is doubled does once what it does; and one of an elder life, behind one of a newer life, does nothing.
func TestStepTwice(t *testing.T) {
	for _, kind := range kinds() {
		doubled := 0
		for seed := range 5 {
			x := picks(seed)
			w := newWorld(t, 3, kind, 0, 1, 2)
			for range 300 {
				id := x.next(3)
				w.tick(id, x.next(10))
				w.ask(&x, script{}, id)
				for range x.next(6) {
					if len(w.net) == 0 {
						continue
					}
					m := w.net[0]
					w.deliver(0)
					doubled++
					does(t, w.nodes[m.To], m)
				}
			}
		}
		if doubled < 1000 {
			t.Errorf("hardly asked: %d", doubled)
		}
		w := wise(t, kind)
		m := api.Msg{From: 5, To: 0, Gen: 2, Kind: greeting}
		does(t, w.nodes[0], stamped(m, 2, 1), story)
		does(t, w.nodes[0], stamped(m, 3, 7), story)
		does(t, w.nodes[0], stamped(m, 2, 2))
		does(t, w.nodes[0], stamped(m, 3, 7))
		does(t, w.nodes[0], stamped(m, 3, 1), story) // late, but new
		does(t, w.nodes[0], stamped(m, 3, 1))
		m.From = 6
		does(t, w.nodes[0], stamped(m, 2, 2), story) // another one's lives are its own
	}
}

// P2002: Out tells each message once, in whatever pieces it is asked, each with the sender's generation and a stamp of its own: in the node's life, to each peer from 1 on.
func TestOut(t *testing.T) {
	for _, kind := range kinds() {
		w := newWorld(t, 3, kind, 0, 1, 2)
		seen := 0
		var numbers [3][api.MaxNodes]int
		take := func(id int) {
			n := w.nodes[id]
			for _, m := range n.Out() {
				seen++
				numbers[id][m.To]++
				if m.From != id || m.Gen != n.Gen().N || !slices.Equal(m.Config.Old, list(n.life(), numbers[id][m.To])) {
					t.Fatalf("P2002: node %d, in generation %d, life %d, sends %+v", id, n.Gen().N, n.life(), m)
				}
				if m.To < 3 {
					w.net = append(w.net, m)
				}
			}
		}
		for round := range 200 {
			for id, n := range w.nodes {
				n.Tick(7 * id % 10)
				if round%3 != id {
					take(id)
				}
				if n.Leads() && round%50 == 40 {
					n.Call(w.migrate(1 + round/50%2))
				}
			}
			for len(w.net) > 0 {
				m := w.net[0]
				w.net = w.net[1:]
				w.nodes[m.To].Step(m)
				if round%5 > 0 {
					take(m.To)
				}
			}
		}
		if seen < 500 || w.nodes[0].Gen().N < 3 {
			t.Errorf("hardly asked: %d messages, %d generations", seen, w.nodes[0].Gen().N)
		}
	}
}

// P2002: what an elder engine had yet to send is not sent with a generation that is none of its own: behind a seal a node tells all others what sealed it, whoever they are.
func TestOutBehindSeal(t *testing.T) {
	for _, kind := range kinds() {
		w := newWorld(t, 1, kind, 0)
		w.rounds(20)
		n := w.nodes[0]
		for range 40 { // greetings, and an engine's beats
			n.Tick(0)
		}
		n.Call(w.data())
		n.Call(w.migrate(3 - kind))
		var told []int
		for _, m := range n.Out() {
			if told = append(told, m.To); m.Kind != story || m.Gen != 2 || !slices.EqualFunc(m.Entries, n.log, wire.SameEntry) {
				t.Errorf("P2002: behind a seal it sends %+v", m)
			}
		}
		if !slices.Equal(told, core.Others(0)) {
			t.Errorf("P2004: behind a seal these are told: %v", told)
		}
	}
}

// P2002, T4: engines of different generations, of the same kind or not, never hear of one another.
func TestGenerationsApart(t *testing.T) {
	for _, kind := range kinds() {
		for _, to := range kinds() {
			w := newWorld(t, 3, kind, 0, 1, 2)
			w.calm()
			w.goes(w.data())
			w.must(w.leader(), w.data())
			var elder []api.Msg
			w.lost = func(m api.Msg) bool {
				if m.Kind < greeting {
					elder = append(elder, m)
				}
				return false
			}
			w.rounds(30)
			w.goes(w.migrate(to))
			w.lost = nil
			w.calm()
			late := 0
			for _, m := range elder {
				n := w.nodes[m.To]
				if m.Gen != 1 {
					continue
				}
				late++
				was := state(n)
				n.Step(stamped(m, 50, late))
				if state(n) != was {
					t.Fatalf("T4: by %+v it is another one", m)
				}
			}
			if late < 20 {
				t.Errorf("hardly asked: %d", late)
			}
			for _, n := range w.nodes {
				if strings.Contains(fmt.Sprint(n.Out()), "Kind:1 ") {
					t.Error("P2002: an engine answered a message of an elder generation")
				}
			}
		}
	}
}
