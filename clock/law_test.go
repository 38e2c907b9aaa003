package clock

import (
	"math"
	"math/big"
	"testing"
)

// waits is 10 ticks and the draw modulo 10 more; a big number's Mod is from 0 on.
func waits(draw int) int {
	more := new(big.Int).Mod(big.NewInt(int64(draw)), big.NewInt(10))
	return 10 + int(more.Int64())
}

// model is what the document says of a clock, worked out from the ticks since it was made.
type model struct {
	now  int
	time int // the tick that its time comes at
}

func newModel(draw int) *model { return &model{time: waits(draw)} }

func (w *model) reset(draw int) { w.time = w.now + waits(draw) }

func (w *model) tick(draw int) bool {
	w.now++
	if w.now < w.time {
		return false
	}
	w.reset(draw)
	return true
}

func (w *model) left() int { return w.time - w.now }

// row is a row of numbers that hang on a first one.
type row uint64

func (x *row) next() uint64 {
	*x = *x*6364136223846793005 + 1442695040888963407
	return uint64(*x ^ *x>>29)
}

func (x *row) below(count int) int { return int((x.next() >> 33) % uint64(count)) }

// draw is a small number, one near 0, one near an end of int, or any.
func (x *row) draw() int {
	switch x.below(5) {
	case 0:
		return x.below(10)
	case 1:
		return x.below(2000) - 1000
	case 2:
		return math.MaxInt - x.below(40)
	case 3:
		return math.MinInt + x.below(40)
	}
	return int(x.next())
}

// P1101, P3: long drawn rows of calls answer what the model says, and the same on two clocks.
func TestAgainstModel(t *testing.T) {
	for seed := range 300 {
		x := row(seed)
		first := x.draw()
		a, b, w := New(first), New(first), newModel(first)
		for i := range 1000 {
			draw := x.draw()
			if x.below(25) == 0 {
				a.Reset(draw)
				b.Reset(draw)
				w.reset(draw)
			} else if got, again, want := a.Tick(draw), b.Tick(draw), w.tick(draw); got != want || again != want {
				t.Fatalf("row %d, call %d, Tick(%d): %v and %v, not %v", seed, i, draw, got, again, want)
			}
			if a.Left() != w.left() || b.Left() != w.left() {
				t.Fatalf("row %d, call %d, draw %d: %d and %d left, not %d", seed, i, draw, a.Left(), b.Left(), w.left())
			}
		}
	}
}

// P1102: over drawn rows there are 10 to 19 ticks from one true to the next, and each of these numbers comes; what is left is from 1 to 19 all the while.
func TestTicksBetweenTrues(t *testing.T) {
	var came [20]int
	for seed := range 300 {
		x := row(1000 + seed)
		c, ticks := New(x.draw()), 0
		for range 2000 {
			ticks++
			draw := x.draw()
			due := c.Tick(draw)
			if left := c.Left(); left < 1 || left > 19 {
				t.Fatalf("row %d: %d left behind Tick(%d)", seed, left, draw)
			}
			if !due {
				continue
			}
			if ticks < 10 || ticks > 19 {
				t.Fatalf("row %d: true behind %d ticks", seed, ticks)
			}
			came[ticks]++
			ticks = 0
		}
		if ticks > 18 {
			t.Errorf("row %d: no true in the last %d ticks", seed, ticks)
		}
	}
	for ticks, times := range came {
		if ticks >= 10 && times == 0 {
			t.Errorf("never %d ticks from one true to the next", ticks)
		}
	}
}

// P1102: both bounds, by one draw over and over: it is true every so many ticks, no sooner and no later.
func TestTicksOfOneDraw(t *testing.T) {
	for draw := -30; draw <= 30; draw++ {
		c, want := New(draw), waits(draw)
		for k := 1; k <= 40*want; k++ {
			if got := c.Tick(draw); got != (k%want == 0) {
				t.Fatalf("draw %d, tick %d: %v", draw, k, got)
			}
		}
	}
}

// P1102: where it is reset meanwhile, there are 10 to 19 ticks from the last Reset to the next true, and 10 at least from true to true.
func TestTicksWithResets(t *testing.T) {
	for seed := range 200 {
		x := row(2000 + seed)
		c, ticks, apart := New(x.draw()), 0, 0
		for range 2000 {
			if x.below(30) == 0 {
				c.Reset(x.draw())
				ticks = 0
			}
			ticks++
			apart++
			if !c.Tick(x.draw()) {
				continue
			}
			if ticks < 10 || ticks > 19 || apart < 10 {
				t.Fatalf("row %d: true behind %d ticks, %d from true to true", seed, ticks, apart)
			}
			ticks, apart = 0, 0
		}
	}
}
