package node

import (
	"slices"
	"strconv"
	"testing"

	"synodal/api"
	"synodal/cells"
	"synodal/engine"
	"synodal/seal"
	"synodal/tape"
	"synodal/wire"
)

// refuseNew says that New refuses this by that error, and leaves the tape as it was.
func refuseNew(t *testing.T, x *tape.Tape, id int, g api.Generation, want api.Errno) {
	t.Helper()
	was, ops := x.Bytes(), x.Ops()
	n, e := New(x, id, g)
	if n != nil || e != want {
		t.Errorf("P2001: New(%d, %+v): %v, not %v", id, g, e, want)
	}
	if !slices.Equal(x.Bytes(), was) || x.Ops() != ops {
		t.Errorf("P2001: New(%d, %+v): %v, and the tape is another one", id, g, e)
	}
}

// deadTape is a tape whose power is gone.
func deadTape(t *testing.T) *tape.Tape {
	t.Helper()
	x := newTape(t)
	x.Stop(1)
	if x.Sync() != api.ErrDead {
		t.Fatal("the power is there")
	}
	return x
}

// P2001: a node has a number from 0 to 8. That it has none is told ahead of all else.
func TestNewId(t *testing.T) {
	for _, kind := range kinds() {
		for id := range api.MaxNodes {
			n := newNode(t, newTape(t), id, generation(kind, 0, 1, 2))
			if n.id != id {
				t.Errorf("P2001: node %d is %d", id, n.id)
			}
		}
		flawed := generation(kind)
		flawed.N = 2
		for _, id := range list(-1<<63, -1<<40, -9, -1, 9, 10, 64, 1<<40, 1<<63-1) {
			for _, g := range []api.Generation{generation(kind, 0), flawed} {
				refuseNew(t, newTape(t), id, g, api.ErrArg)
				refuseNew(t, deadTape(t), id, g, api.ErrArg)
			}
		}
	}
}

// configs are such as a generation may begin with, and such as it may not.
func configs() []api.Config {
	return []api.Config{
		{New: list(0)}, {New: list(0, 1, 2)}, {New: list(8)}, {New: list(2, 3, 4, 5, 6, 7, 8)},
		{}, {New: list(0, 1, 2, 3, 4, 5, 6, 7)}, {New: list(9)}, {New: list(-1)}, {New: list(1, 0)}, {New: list(1, 1)},
		{Old: list(0), New: list(1)}, {Old: list(0)}, {Old: list(9), New: list(0)}, {Old: list(0, 1, 2, 3, 4, 5, 6, 7), New: list(0)},
	}
}

// P2001: each error of seal.New's, in its order; behind these N other than 1 and Base other than 0; behind these the tape's. Whatever applies at once.
func TestNewErrors(t *testing.T) {
	small, _ := tape.New(20)
	hit := map[api.Errno]int{}
	for _, n := range list(-1<<63, -1, 0, 1, 2, 3, 1<<40) {
		for _, kind := range list(-1, 0, api.Raft, api.Chain, 3) {
			for _, base := range list(-1, 0, 1, 64, 65) {
				for _, c := range configs() {
					g := api.Generation{N: n, Engine: kind, Base: base, Config: c}
					_, want := seal.New(g)
					if want == api.OK && (n != 1 || base != 0) {
						want = api.ErrArg
					}
					hit[want]++
					if want == api.OK {
						newNode(t, newTape(t), 0, g)
						refuseNew(t, deadTape(t), 0, g, api.ErrDead)
						refuseNew(t, small, 0, g, api.ErrFull)
						continue
					}
					refuseNew(t, newTape(t), 8, g, want)
					refuseNew(t, deadTape(t), 8, g, want)
					refuseNew(t, small, 8, g, want)
				}
			}
		}
	}
	for _, e := range []api.Errno{api.OK, api.ErrArg, api.ErrNone, api.ErrMany} {
		if hit[e] < 8 {
			t.Errorf("hardly asked: %v", hit)
		}
	}
}

// P2001: of flaws that apply at once the one that seal.New names first.
func TestNewOrder(t *testing.T) {
	both := generation(api.Raft)
	both.N, both.Base = 2, 5
	many := generation(api.Chain, 0, 1, 2, 3, 4, 5, 6, 7)
	many.N = 7
	zero := generation(api.Raft)
	zero.N = 0
	refuseNew(t, newTape(t), 0, both, api.ErrNone)
	refuseNew(t, newTape(t), 0, many, api.ErrMany)
	refuseNew(t, newTape(t), 0, zero, api.ErrArg)
	refuseNew(t, newTape(t), 9, both, api.ErrArg)
}

// P2001: a tape without room is ErrFull, and nothing is there then; with room enough all of it is.
func TestNewRoom(t *testing.T) {
	for _, kind := range kinds() {
		refused := 0
		for size := 1; ; size++ {
			x, _ := tape.New(size)
			n, e := New(x, 3, generation(kind, 0, 1, 2))
			if e == api.OK {
				if len(x.Bytes()) != size {
					t.Errorf("P2001: room for %d bytes is too little, and it takes %d", size-1, len(x.Bytes()))
				}
				checkNew(t, n, 3, kind)
				break
			}
			refused++
			if n != nil || e != api.ErrFull || len(x.Bytes()) > 0 || size > 1000 {
				t.Fatalf("P2001: room for %d bytes: %v, and there are %d", size, e, len(x.Bytes()))
			}
		}
		if refused < 20 {
			t.Errorf("hardly asked: %d", refused)
		}
	}
}

// checkNew says that a node is one of a first generation of the members 0, 1, 2, that knows nothing.
func checkNew(t *testing.T, n *Node, id, kind int) {
	t.Helper()
	g := generation(kind, 0, 1, 2)
	if n.Commit() != 0 || len(n.Read()) > 0 || n.Leads() || len(n.Out()) > 0 || !slices.Equal(n.Members(), list(0, 1, 2)) {
		t.Errorf("P2001: a new node: commit %d, leads %v, members %v", n.Commit(), n.Leads(), n.Members())
	}
	if l := n.Gens(); len(l) != 1 || !sameGeneration(l[0], g) || !sameGeneration(n.Gen(), g) {
		t.Errorf("P2001: a new node: %+v, %+v", n.Gens(), n.Gen())
	}
	if at, e := n.Place(1, 1); at != 0 || e != api.ErrNone {
		t.Errorf("P2001: a new node: %d, %v", at, e)
	}
	if n.engine.Kind() != kind || !slices.Equal(n.engine.Save(), engineOf(t, id, g).Save()) {
		t.Errorf("P2001: a new node: its engine is another one")
	}
}

// P2001: where the power is gone, or goes within New, nothing is there; where it does not, all of it is there, synced.
func TestNewPower(t *testing.T) {
	for _, kind := range kinds() {
		g := generation(kind, 0, 1, 2)
		for stop := 1; ; stop++ {
			x := newTape(t)
			x.Stop(stop)
			n, e := New(x, 2, g)
			if e == api.OK {
				if stop == 1 {
					t.Error("P2001: New writes nothing")
				}
				checkNew(t, n, 2, kind)
				x.Crash(0)
				checkNew(t, open(t, x, 2), 2, kind)
				break
			}
			if n != nil || e != api.ErrDead || !x.Dead() {
				t.Fatalf("P2001: the power goes at operation %d: %v", stop, e)
			}
			refuseNew(t, x, 2, g, api.ErrDead)
			refuseOpen(t, x, 2, api.ErrDead)
			x.Crash(stop)
			refuseOpen(t, x, 2, api.ErrNone)
			checkNew(t, newNode(t, x, 2, g), 2, kind)
		}
	}
}

func refuseOpen(t *testing.T, x *tape.Tape, id int, want api.Errno) {
	t.Helper()
	if n, e := Open(x, id); n != nil || e != want {
		t.Errorf("P2001: Open(%d): %v, not %v", id, e, want)
	}
}

// P2001: where nothing is there: ErrNone, but for a power that is gone.
func TestOpenNothing(t *testing.T) {
	x := newTape(t)
	for _, id := range list(-1, 0, 8, 9) {
		refuseOpen(t, x, id, api.ErrNone)
		refuseOpen(t, deadTape(t), id, api.ErrDead)
	}
	x.Append([]byte{0, 0})
	refuseOpen(t, x, 0, api.ErrNone) // a part of a record is none
}

// P2001: whoever is opened is who it was, in a newer life each time; and that lasts ahead of all that it sends.
func TestOpenAgain(t *testing.T) {
	for _, kind := range kinds() {
		x := newTape(t)
		n := newNode(t, x, 2, generation(kind, 0, 1, 2))
		for life := 1; life < 30; life++ {
			if n.life() != life || open(t, twinTape(t, x), 2).life() != life+1 {
				t.Fatalf("P2001: opened %d times it is in life %d", life-1, n.life())
			}
			checkNew(t, n, 2, kind)
			x.Crash(0)
			n = open(t, x, 2)
		}
	}
}

// P2001: a node in a newer life is heard by those who heard it in elder ones; and what it sent in these comes too late then.
func TestNewerLifeIsHeard(t *testing.T) {
	for _, kind := range kinds() {
		w := newWorld(t, 3, kind, 0, 1, 2)
		w.calm()
		w.goes(w.data())
		for range 3 {
			for id := range w.nodes {
				w.reopen(id, 0)
				w.rounds(60)
				w.goes(w.data())
			}
		}
	}
}

// P2001: the power is gone, or goes at each operation within Open, over and over: the node behind it is what it was.
func TestOpenPower(t *testing.T) {
	for _, kind := range kinds() {
		w := newWorld(t, 3, kind, 0, 1, 2)
		w.calm()
		w.goes(w.data())
		w.goes(w.migrate(3 - kind))
		w.calm()
		for id, x := range w.tapes {
			life, cut := w.nodes[id].life(), 0
			for round := range 5 {
				for stop := 1; ; stop++ {
					x.Stop(stop)
					n, e := Open(x, id)
					if e == api.OK {
						break
					}
					cut++
					if n != nil || e != api.ErrDead {
						t.Fatalf("P2001: the power goes at operation %d: %v", stop, e)
					}
					refuseOpen(t, x, id, api.ErrDead)
					x.Crash(stop * 7)
				}
				x.Stop(0)
				if o := open(t, twinTape(t, x), id); o.life() != life+round+2 {
					t.Fatalf("P2001: behind life %d comes life %d", life+round+1, o.life())
				}
			}
			if cut < 5 {
				t.Errorf("hardly asked: the power went %d times", cut)
			}
			w.reopen(id, 0)
		}
		w.calm()
		w.goes(w.data())
	}
}

// used is the tape of a node that has seen two generations.
func used(t *testing.T, kind int) *tape.Tape {
	t.Helper()
	w := newWorld(t, 1, kind, 0)
	w.rounds(20)
	w.goes(w.data())
	w.goes(w.migrate(3 - kind))
	w.goes(w.data())
	return w.tapes[0]
}

// wantOfBytes is what Open of a tape with such bytes must tell: cells.Open's error; ErrNone, if there are no cells; ErrBad, if cells are lacking.
func wantOfBytes(x *tape.Tape, whole int) api.Errno {
	c, e := cells.Open(x)
	switch {
	case e != api.OK:
		return e
	case len(c.All()) == 0:
		return api.ErrNone
	case len(c.All()) < whole:
		return api.ErrBad
	}
	return api.OK
}

// P2001: bytes that are turned, or lacking, are told as cells.Open tells them; where cells of the node's are lacking then, it is not opened.
func TestOpenTurned(t *testing.T) {
	for _, kind := range kinds() {
		x := used(t, kind)
		c, _ := cells.Open(x)
		whole := len(c.All())
		b := x.Bytes()
		hit := map[api.Errno]int{}
		try := func(b []byte) {
			y, z := newTape(t), newTape(t)
			y.Replace(b)
			z.Replace(b)
			want := wantOfBytes(y, whole)
			hit[want]++
			n, e := Open(z, 0)
			if e != want || (n == nil) != (e != api.OK) {
				t.Fatalf("P2001: kind %d: %v, not %v, of turned bytes", kind, e, want)
			}
		}
		for i := range b {
			for _, turn := range []byte{1, 0x80, 0xff} {
				turned := slices.Clone(b)
				turned[i] ^= turn
				try(turned)
			}
			try(b[:i])
		}
		try(b)
		for _, e := range []api.Errno{api.ErrSum, api.ErrLong, api.ErrNone, api.ErrBad, api.OK} {
			if hit[e] == 0 {
				t.Errorf("hardly asked: %v", hit)
			}
		}
	}
}

// P2001: cells that no node has saved are not a node: ErrBad.
func TestOpenBad(t *testing.T) {
	for _, kind := range kinds() {
		own := used(t, kind)
		mine, _ := cells.Open(own)
		other := newTape(t)
		newNode(t, other, 0, generation(kind, 0, 1, 2))
		theirs, _ := cells.Open(other)
		odd, _ := wire.EncodeMsg(api.Msg{Kind: story, Entries: []api.Entry{{Kind: api.KMigrate, Client: 1, Seq: 1}}})
		later, _ := seal.New(api.Generation{N: 2, Engine: kind, Config: api.Config{New: list(0)}})
		for i, x := range []api.Cell{
			{N: firstCell}, {N: logCell}, {N: engineCell},
			{N: firstCell, Data: []byte("odd")}, {N: logCell, Data: []byte("odd")}, {N: engineCell, Data: []byte("odd")},
			{N: logCell, Data: odd}, {N: firstCell, Data: later.Save()},
			{N: engineCell, Data: theirs.Get(engineCell)}, // of the other kind
		} {
			y := twinTape(t, own)
			c, _ := cells.Open(y)
			c.Put(x)
			refuseOpen(t, y, 0, api.ErrBad)
			c.Put(api.Cell{N: x.N, Data: mine.Get(x.N)})
			if _, e := Open(y, 0); e != api.OK {
				t.Errorf("P2001: %d: %v", i, e)
			}
		}
	}
}

// P2001: on the tape of the node's stand its life, as far as it came; the engine that is loaded is of the last generation.
func TestOpenLoads(t *testing.T) {
	for _, kind := range kinds() {
		x := used(t, kind)
		n := open(t, x, 0)
		c, _ := cells.Open(twinTape(t, x))
		if string(c.Get(lifeCell)) != strconv.Itoa(2) || n.life() != 2 {
			t.Errorf("P2001: in life %q, %d", c.Get(lifeCell), n.life())
		}
		if n.engine.Kind() != 3-kind || n.Gen().N != 2 || n.Leads() {
			t.Errorf("P2001: its engine is of kind %d, in generation %+v", n.engine.Kind(), n.Gen())
		}
		y, e := engine.Load(3-kind, 0, c.Get(engineCell))
		if e != api.OK || !slices.Equal(y.Save(), n.engine.Save()) {
			t.Errorf("P2001: %v: its engine is another one", e)
		}
	}
}
