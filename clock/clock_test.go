package clock

import (
	"math"
	"testing"
)

func checkLeft(t *testing.T, what string, c *Clock, want int) {
	t.Helper()
	if got := c.Left(); got != want {
		t.Errorf("%s: Left: %d, not %d", what, got, want)
	}
}

// checkTick ticks once, and holds its answer and what is left then against what they must be.
func checkTick(t *testing.T, what string, c *Clock, draw int, want bool, left int) {
	t.Helper()
	if got := c.Tick(draw); got != want {
		t.Errorf("%s: Tick(%d): %v, not %v", what, draw, got, want)
	}
	checkLeft(t, what, c, left)
}

// checkWaits ticks a clock down to its last tick, each time with another draw of some: none of them may change how long it waits.
func checkWaits(t *testing.T, what string, c *Clock, ticks int) {
	t.Helper()
	some := draws()
	checkLeft(t, what, c, ticks)
	for left := ticks - 1; left > 0; left-- {
		checkTick(t, what, c, some[left%len(some)].draw, false, left)
	}
}

// drawn is a draw, and how many ticks a clock waits behind it, written out.
type drawn struct{ draw, ticks int }

func draws() []drawn {
	return []drawn{
		{0, 10}, {1, 11}, {2, 12}, {3, 13}, {4, 14}, {5, 15}, {6, 16}, {7, 17}, {8, 18}, {9, 19},
		{10, 10}, {11, 11}, {13, 13}, {19, 19}, {20, 10}, {99, 19}, {100, 10}, {1234567, 17},
		{-1, 19}, {-2, 18}, {-3, 17}, {-4, 16}, {-5, 15}, {-6, 14}, {-7, 13}, {-8, 12}, {-9, 11},
		{-10, 10}, {-11, 19}, {-19, 11}, {-20, 10}, {-21, 19}, {-1234567, 13},
		{math.MaxInt32, 17}, {math.MinInt32, 12}, {1 << 40, 16}, {-1 << 40, 14},
		{math.MaxInt64, 17}, {math.MaxInt64 - 7, 10}, {math.MinInt64, 12}, {math.MinInt64 + 1, 13}, {math.MinInt64 + 8, 10},
	}
}

// P1101, example 1.
func TestExample(t *testing.T) {
	checkLeft(t, "New(3)", New(3), 13)
}

// P1101, P9: New waits 10 ticks and the draw modulo 10, from 0 on, whatever the draw is.
func TestNew(t *testing.T) {
	for _, x := range draws() {
		c := New(x.draw)
		checkWaits(t, "New", c, x.ticks)
		checkTick(t, "New, the last tick", c, 0, true, 10)
	}
}

// P1101, P9: Reset waits as long as New does, on a new clock, one that has waited, and one that waits for its last tick.
func TestReset(t *testing.T) {
	for _, x := range draws() {
		for _, ahead := range []int{0, 1, 9, 14} {
			c := New(5)
			for range ahead {
				c.Tick(8)
			}
			c.Reset(x.draw)
			checkWaits(t, "Reset", c, x.ticks)
			checkTick(t, "Reset, the last tick", c, 0, true, 10)
		}
	}
}

// P1101, P9: a tick that is true leaves the clock as Reset with its draw does.
func TestTrueTickResets(t *testing.T) {
	for _, x := range draws() {
		c := New(0)
		checkWaits(t, "the first wait", c, 10)
		checkTick(t, "the first wait, its end", c, x.draw, true, x.ticks)
		checkWaits(t, "the second wait", c, x.ticks)
		checkTick(t, "the second wait, its end", c, -1, true, 19)
		checkWaits(t, "the third wait", c, 19)
	}
}

// P1101: one ahead of the last tick, the last one, and the one right behind it, each with a draw of its own: that of the last one alone counts.
func TestRoundTheLastTick(t *testing.T) {
	c := New(0)
	for range 8 {
		c.Tick(1)
	}
	checkLeft(t, "behind 8 ticks", c, 2)
	checkTick(t, "one ahead of the last", c, 2, false, 1)
	checkTick(t, "the last", c, 3, true, 13)
	checkTick(t, "right behind it", c, 4, false, 12)
	checkTick(t, "behind that", c, 5, false, 11)
}

// P1101: the draw of a tick that answers false changes nothing: neither what is left then, nor when the time comes, nor how long it waits from then on.
func TestDrawOfFalseTick(t *testing.T) {
	for _, x := range draws() {
		c := New(9)
		for left := 18; left > 0; left-- {
			checkTick(t, "the one draw again and again", c, x.draw, false, left)
		}
		checkTick(t, "at last", c, 6, true, 16)
	}
}

// P1101: Reset ahead of the time takes back what has been waited, and is none longer for what was left.
func TestResetAheadOfTime(t *testing.T) {
	c := New(9)
	checkTick(t, "first", c, 0, false, 18)
	c.Reset(0)
	checkLeft(t, "a shorter wait", c, 10)
	checkTick(t, "then", c, 9, false, 9)
	c.Reset(9)
	checkLeft(t, "a longer wait", c, 19)
	c.Reset(4)
	c.Reset(2)
	checkLeft(t, "the second of two", c, 12)
	c.Reset(2)
	checkLeft(t, "the same draw", c, 12)
}

// P1101: a clock that is reset over and over never comes to its time, even if only one tick is left each time.
func TestResetOverAndOver(t *testing.T) {
	c := New(0)
	for round := range 500 {
		for left := c.Left() - 1; left > 0; left-- {
			checkTick(t, "over and over", c, round, false, left)
		}
		c.Reset(round)
		checkLeft(t, "over and over", c, 10+round%10)
	}
}

// P1101: Reset right behind a tick that was true takes the place of that tick's draw.
func TestResetBehindTrueTick(t *testing.T) {
	for _, x := range draws() {
		c := New(0)
		checkWaits(t, "ahead", c, 10)
		checkTick(t, "its end", c, 5, true, 15)
		c.Reset(x.draw)
		checkWaits(t, "behind", c, x.ticks)
		checkTick(t, "behind, its end", c, 1, true, 11)
	}
}

// P1101: asking what is left changes nothing.
func TestLeftChangesNothing(t *testing.T) {
	asked, silent := New(7), New(7)
	for k := range 300 {
		for range k % 4 {
			asked.Left()
		}
		if got, want := asked.Tick(3*k), silent.Tick(3*k); got != want {
			t.Fatalf("tick %d: %v, not %v", k, got, want)
		}
	}
	checkLeft(t, "the one that was asked", asked, silent.Left())
}

// P7: what is done to one clock is not seen at another one, of the same draw or not.
func TestClocksAreNobodyElses(t *testing.T) {
	a, b, c := New(3), New(3), New(4)
	for range 12 {
		a.Tick(0)
	}
	checkLeft(t, "the one that ticked", a, 1)
	checkLeft(t, "its twin", b, 13)
	checkLeft(t, "the other", c, 14)
	b.Reset(8)
	checkLeft(t, "behind the twin's Reset", a, 1)
	checkTick(t, "its end", a, 6, true, 16)
	checkLeft(t, "behind its end, the twin", b, 18)
	checkLeft(t, "behind its end, the other", c, 14)
	checkLeft(t, "one that is newer", New(5), 15)
	checkLeft(t, "behind a newer one", a, 16)
}

// W6: clocks with the draws of quiet rounds come to their times one by one, a tick apart each.
func TestQuietRoundDraws(t *testing.T) {
	var clocks [10]*Clock
	for i := range clocks {
		clocks[i] = New(7 * i % 10)
	}
	var trues [20]int // by tick, from 1 on
	for tick := 1; tick < len(trues); tick++ {
		for i, c := range clocks {
			if c.Tick(7 * i % 10) {
				trues[tick]++
				checkLeft(t, "the next wait", c, tick)
			}
		}
	}
	for tick, got := range trues {
		if want := tick / 10; got != want {
			t.Errorf("tick %d: %d clocks, not %d", tick, got, want)
		}
	}
}
