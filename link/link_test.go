package link

import (
	"errors"
	"math"
	"strconv"
	"strings"
	"testing"

	"synodal/api"
)

// call is one Take, and what it must answer.
type call struct {
	peer, life, n int
	want          api.Errno
}

// checkTakes does calls one by one, and holds what Refused tells behind each against those that answered an error.
func checkTakes(t *testing.T, what string, l *Link, calls ...call) {
	t.Helper()
	refused := l.Refused()
	for i, x := range calls {
		got := l.Take(x.peer, x.life, x.n)
		if got != x.want {
			t.Errorf("%s: call %d, Take(%d, %d, %d): %v, not %v", what, i, x.peer, x.life, x.n, got, x.want)
		}
		if x.want != api.OK {
			refused++
		}
		if l.Refused() != refused {
			t.Errorf("%s: call %d, Take(%d, %d, %d): %d refused, not %d", what, i, x.peer, x.life, x.n, l.Refused(), refused)
		}
	}
}

// checkNumbers takes numbers of peer 2 in life 1, all of which must answer the same.
func checkNumbers(t *testing.T, what string, l *Link, want api.Errno, numbers ...int) {
	t.Helper()
	for _, n := range numbers {
		checkTakes(t, what, l, call{2, 1, n, want})
	}
}

func checkLife(t *testing.T, what string, l *Link, peer, want int) {
	t.Helper()
	if got := l.Life(peer); got != want {
		t.Errorf("%s: Life(%d): %d, not %d", what, peer, got, want)
	}
}

func checkStamp(t *testing.T, what string, l *Link, peer, life, n int) {
	t.Helper()
	if gotLife, got := l.Stamp(peer); gotLife != life || got != n {
		t.Errorf("%s: Stamp(%d): %d and %d, not %d and %d", what, peer, gotLife, got, life, n)
	}
}

// P701: a new link has taken and refused nothing, and its stamps have the life that it was given, whoever it is of.
func TestNew(t *testing.T) {
	for _, self := range []int{0, 3, -1, math.MaxInt, math.MinInt} {
		for _, life := range []int{1, 7, 1<<40 - 1, 0, -5, math.MaxInt, math.MinInt} {
			l := New(self, life)
			if l.Refused() != 0 {
				t.Errorf("New(%d, %d): %d refused", self, life, l.Refused())
			}
			for _, peer := range []int{self, 0, 1, -1, math.MaxInt, math.MinInt} {
				checkLife(t, "New", l, peer, 0)
			}
			checkStamp(t, "New", l, 1, life, 1)
			checkTakes(t, "New", l, call{self, 1, 1, api.OK}, call{self, 1, 1, api.ErrIs})
		}
	}
}

// P701: to one peer again and again: 1, then one more each time, far beyond what Take looks back.
func TestStampAgain(t *testing.T) {
	l := New(0, 3)
	for n := 1; n <= 1000; n++ {
		checkStamp(t, "again", l, 1, 3, n)
	}
}

// P701: each peer has numbers of its own, whatever its own number is.
func TestStampInTurn(t *testing.T) {
	l := New(3, 7)
	peers := []int{0, 1, 2, 3, -1, -4, math.MaxInt, math.MinInt}
	for n := 1; n <= 300; n++ {
		for _, peer := range peers {
			checkStamp(t, "in turn", l, peer, 7, n)
		}
	}
	for _, x := range [][2]int{{1, 301}, {1, 302}, {2, 301}, {9, 1}, {1, 303}, {-4, 301}, {-9, 1}, {-4, 302}} {
		checkStamp(t, "in no order", l, x[0], 7, x[1])
	}
}

// P701: what is stamped and what is taken don't know of each other.
func TestStampAndTake(t *testing.T) {
	l := New(0, 2)
	checkStamp(t, "first", l, 1, 2, 1)
	checkLife(t, "stamped", l, 1, 0)
	checkTakes(t, "stamped", l, call{1, 1, 1, api.OK}, call{1, 9, 40, api.OK}, call{1, 2, 1, api.ErrStale}, call{1, 9, 40, api.ErrIs}, call{1, 0, 0, api.ErrArg})
	checkStamp(t, "behind Take", l, 1, 2, 2)
	checkStamp(t, "behind Take", l, 2, 2, 1)
	checkLife(t, "behind Stamp", l, 1, 9)
	checkTakes(t, "behind Stamp", l, call{1, 9, 41, api.OK}, call{2, 2, 1, api.OK})
	checkStamp(t, "at last", l, 2, 2, 2)
}

// P701: the document's example.
func TestExample(t *testing.T) {
	checkTakes(t, "example", New(0, 1), call{2, 1, 3, api.OK}, call{2, 1, 3, api.ErrIs})
}

// P701: a life or a number below 1 is ErrArg, whatever was taken; what is from 1 on is not.
func TestTakeArg(t *testing.T) {
	below := []int{0, -1, -255, -256, -257, math.MinInt + 1, math.MinInt}
	from := []int{1, 2, 256, 257, 1<<40 - 1, math.MaxInt - 1, math.MaxInt}
	for _, bad := range below {
		l := New(0, 1)
		for _, good := range from {
			checkTakes(t, "nothing taken", l, call{2, bad, good, api.ErrArg}, call{2, good, bad, api.ErrArg}, call{2, bad, bad, api.ErrArg})
		}
		checkLife(t, "all refused", l, 2, 0)
		checkTakes(t, "some taken", l, call{2, 1, 1, api.OK}, call{2, 1, bad, api.ErrArg}, call{2, bad, 1, api.ErrArg}, call{2, bad, bad, api.ErrArg}, call{2, 2, bad, api.ErrArg})
		checkLife(t, "some taken", l, 2, 1)
	}
	for _, life := range from {
		for _, n := range from {
			l := New(0, 1)
			checkTakes(t, "from 1 on", l, call{2, life, n, api.OK}, call{2, life, n, api.ErrIs})
			checkLife(t, "from 1 on", l, 2, life)
		}
	}
}

// P6: ErrArg comes ahead of ErrStale and ErrIs, ErrStale ahead of ErrIs.
func TestTakeOrder(t *testing.T) {
	l := New(0, 1)
	checkTakes(t, "order", l,
		call{2, 4, 7, api.OK}, call{2, 5, 300, api.OK}, call{2, 5, 7, api.ErrIs},
		call{2, 0, 300, api.ErrArg},       // also a life that is too low
		call{2, -1, 7, api.ErrArg},        // also a life that is too low
		call{2, 0, 0, api.ErrArg},         // both
		call{2, 4, 0, api.ErrArg},         // also a life that is too low
		call{2, 1, -1, api.ErrArg},        // also a life that is too low
		call{2, 5, 0, api.ErrArg},         // also 256 and more below the greatest
		call{2, 5, -300, api.ErrArg},      // also 256 and more below the greatest
		call{2, 6, 0, api.ErrArg},         // a newer life
		call{2, 4, 7, api.ErrStale},       // taken in that life, and far below the greatest of the newer one
		call{2, 4, 300, api.ErrStale},     // taken, in the newer life alone
		call{2, 1, 44, api.ErrStale},      // 256 below the greatest
		call{2, 4, 1 << 39, api.ErrStale}, // new otherwise
		call{2, 5, 44, api.ErrIs}, call{2, 5, 300, api.ErrIs})
	checkLife(t, "order", l, 2, 5)
}

// P701: once, twice, out of order, with gaps.
func TestTakeNumbers(t *testing.T) {
	l := New(0, 1)
	checkNumbers(t, "rising", l, api.OK, 1, 2, 3, 4)
	checkNumbers(t, "twice", l, api.ErrIs, 1, 2, 3, 4, 4, 3, 2, 1)
	checkNumbers(t, "with gaps", l, api.OK, 10, 20, 30)
	checkNumbers(t, "twice", l, api.ErrIs, 10, 20, 30)
	checkNumbers(t, "out of order", l, api.OK, 25, 5, 15, 29, 6, 19, 11)
	checkNumbers(t, "twice", l, api.ErrIs, 25, 5, 15, 29, 6, 19, 11, 10, 20, 30, 1, 2, 3, 4)
	checkNumbers(t, "between", l, api.OK, 7, 8, 9, 12, 13, 14, 16, 17, 18, 21, 22, 23, 24, 26, 27, 28)
	for n := 1; n <= 30; n++ {
		checkNumbers(t, "all", l, api.ErrIs, n)
	}
	checkNumbers(t, "above", l, api.OK, 31)
}

// P701: from the greatest down, all of the 255 below it are new once, and none behind them.
func TestTakeFalling(t *testing.T) {
	for _, top := range []int{1, 2, 255, 256, 257, 300, 511, 512, 513, 1000, 1<<40 - 1, math.MaxInt} {
		l := New(0, 1)
		for below := range 600 {
			n := top - below
			want := api.OK
			switch {
			case n < 1:
				want = api.ErrArg
			case below >= 256:
				want = api.ErrIs
			}
			checkNumbers(t, "falling from "+strconv.Itoa(top), l, want, n)
		}
		for below := range min(top, 600) {
			checkNumbers(t, "falling again", l, api.ErrIs, top-below)
		}
	}
}

// P701: the edge of 256, where nothing stands below, and where all does.
func TestTakeFarBelow(t *testing.T) {
	for _, top := range []int{258, 300, 512, 1025, 1 << 20, 1<<40 - 1, math.MaxInt} {
		l := New(0, 1)
		checkNumbers(t, "not taken", l, api.OK, top)
		checkNumbers(t, "not taken", l, api.ErrIs, top-257, top-256, 1)
		checkNumbers(t, "not taken", l, api.OK, top-255, top-254)
		checkNumbers(t, "taken", l, api.ErrIs, top-257, top-256, top-255, top-254, top)

		l = New(0, 1)
		checkNumbers(t, "taken ahead", l, api.OK, top-257, top-256, top-255, top)
		checkNumbers(t, "taken ahead", l, api.ErrIs, top-257, top-256, top-255, top)
		checkNumbers(t, "taken ahead", l, api.OK, top-254)
	}
}

// P701: a greater number makes elder ones too far, whether they were taken or not, by a step of any length.
func TestTakeMakesTooFar(t *testing.T) {
	for step := 1; step <= 1100; step++ {
		l := New(0, 1)
		checkNumbers(t, "ahead", l, api.OK, 1000, 999, 997, 745)
		top := 1000 + step
		checkNumbers(t, "step "+strconv.Itoa(step), l, api.OK, top)
		for _, n := range []int{1000, 999, 997, 745} {
			checkNumbers(t, "taken", l, api.ErrIs, n)
		}
		for _, n := range []int{998, 996, 746, 744, 1001} {
			want := api.OK
			if top-n >= 256 || n == top {
				want = api.ErrIs
			}
			checkNumbers(t, "not taken, "+strconv.Itoa(top-n)+" below "+strconv.Itoa(top), l, want, n)
		}
	}
}

// P701: no number is taken for another one, however far they are from each other: each is new once on the way up.
func TestTakeOnTheWayUp(t *testing.T) {
	for _, step := range []int{2, 3, 63, 64, 65, 127, 128, 255, 256, 257, 511, 512, 513, 65536} {
		what := "up by " + strconv.Itoa(step)
		l := New(0, 1)
		for i := range 1000 {
			n := 1 + i*step
			checkNumbers(t, what, l, api.OK, n)
			checkNumbers(t, what, l, api.ErrIs, n)
			checkNumbers(t, what, l, api.OK, n+1)
			checkNumbers(t, what, l, api.ErrIs, n+1, n)
		}
	}
}

// P701: a life below the greatest is ErrStale, a greater one begins its numbers anew, at any of them.
func TestTakeLives(t *testing.T) {
	l := New(0, 1)
	checkTakes(t, "the first", l, call{2, 5, 1, api.OK}, call{2, 5, 300, api.OK}, call{2, 5, 299, api.OK})
	checkLife(t, "the first", l, 2, 5)
	checkTakes(t, "below", l, call{2, 4, 1, api.ErrStale}, call{2, 4, 301, api.ErrStale}, call{2, 1, 2, api.ErrStale})
	checkLife(t, "below", l, 2, 5)
	checkTakes(t, "at", l, call{2, 5, 299, api.ErrIs}, call{2, 5, 44, api.ErrIs}, call{2, 5, 45, api.OK})
	checkTakes(t, "above", l, call{2, 6, 299, api.OK})
	checkLife(t, "above", l, 2, 6)
	checkTakes(t, "above, what the elder took", l, call{2, 6, 300, api.OK}, call{2, 6, 45, api.OK}, call{2, 6, 299, api.ErrIs}, call{2, 6, 300, api.ErrIs}, call{2, 6, 44, api.ErrIs})
	checkTakes(t, "the elder", l, call{2, 5, 298, api.ErrStale}, call{2, 5, 1000, api.ErrStale}, call{2, 5, 299, api.ErrStale})
	checkTakes(t, "lower numbers", l, call{2, 9, 1, api.OK}, call{2, 9, 45, api.OK}, call{2, 9, 44, api.OK}, call{2, 9, 1, api.ErrIs}, call{2, 8, 1, api.ErrStale}, call{2, 6, 1, api.ErrStale})
	checkLife(t, "lower numbers", l, 2, 9)
	checkTakes(t, "the last", l, call{2, math.MaxInt, 2, api.OK}, call{2, math.MaxInt - 1, 2, api.ErrStale}, call{2, math.MaxInt, 2, api.ErrIs}, call{2, math.MaxInt, 1, api.OK})
	checkLife(t, "the last", l, 2, math.MaxInt)
}

// P701: all that an elder life took is new in a newer one.
func TestTakeAnewInNewerLife(t *testing.T) {
	l := New(0, 1)
	for life := 1; life <= 4; life++ {
		for n := 1; n <= 600; n++ {
			checkTakes(t, "rising", l, call{2, life, n, api.OK})
		}
		for n := 1; n <= 600; n++ {
			checkTakes(t, "again", l, call{2, life, n, api.ErrIs})
		}
	}
	checkTakes(t, "falling", l, call{2, 5, 600, api.OK}, call{2, 5, 599, api.OK}, call{2, 5, 345, api.OK}, call{2, 5, 344, api.ErrIs})
}

// P701: Life of a peer of which nothing was taken, and of one of which all was refused.
func TestLife(t *testing.T) {
	l := New(3, 8)
	checkTakes(t, "refused", l, call{1, 0, 1, api.ErrArg}, call{1, 4, 0, api.ErrArg}, call{1, -4, -4, api.ErrArg})
	checkTakes(t, "taken", l, call{2, 3, 1, api.OK}, call{2, 2, 1, api.ErrStale}, call{2, 7, 0, api.ErrArg}, call{-2, 6, 1, api.OK})
	for _, x := range [][2]int{{1, 0}, {2, 3}, {3, 0}, {-2, 6}, {-1, 0}, {math.MaxInt, 0}, {math.MinInt, 0}} {
		checkLife(t, "some taken", l, x[0], x[1])
		checkLife(t, "asked again", l, x[0], x[1])
	}
	checkTakes(t, "what was refused is new yet", l, call{1, 1, 1, api.OK})
	checkLife(t, "what was refused is new yet", l, 1, 1)
}

// P701: one peer takes nothing from another one, be their numbers far from each other or close.
func TestPeers(t *testing.T) {
	l := New(0, 1)
	peers := []int{0, 1, 2, -1, -2, 256, 257, -256, 1 << 32, math.MaxInt, math.MinInt}
	for i, peer := range peers {
		for _, other := range peers[i:] {
			checkLife(t, "not yet", l, other, 0)
		}
		checkTakes(t, "each", l, call{peer, i + 1, 1, api.OK}, call{peer, i + 1, 300, api.OK}, call{peer, i + 1, 44, api.ErrIs})
	}
	for i, peer := range peers {
		checkLife(t, "each", l, peer, i+1)
		checkTakes(t, "each again", l, call{peer, i + 1, 300, api.ErrIs}, call{peer, i + 1, 299, api.OK}, call{peer, i + 1, 299, api.ErrIs}, call{peer, i + 2, 299, api.OK}, call{peer, i + 1, 298, api.ErrStale})
		checkLife(t, "each again", l, peer, i+2)
	}
}

// P5: what is refused changes nothing but Refused, though it names the greatest lives and numbers.
func TestRefusedChangesNothing(t *testing.T) {
	l := New(0, 1)
	checkTakes(t, "ahead", l, call{2, 5, 300, api.OK}, call{2, 5, 298, api.OK})
	for range 3 {
		checkTakes(t, "refused", l,
			call{2, math.MaxInt, 0, api.ErrArg}, call{2, 6, -1, api.ErrArg}, call{2, 0, math.MaxInt, api.ErrArg}, call{2, 0, 299, api.ErrArg}, call{2, 5, 0, api.ErrArg},
			call{2, 4, math.MaxInt, api.ErrStale}, call{2, 4, 299, api.ErrStale}, call{2, 1, 301, api.ErrStale},
			call{2, 5, 300, api.ErrIs}, call{2, 5, 44, api.ErrIs}, call{2, 5, 43, api.ErrIs}, call{2, 5, 1, api.ErrIs}, call{2, 5, 298, api.ErrIs})
		checkLife(t, "refused", l, 2, 5)
	}
	if l.Refused() != 39 {
		t.Errorf("%d refused, not 39", l.Refused())
	}
	for n := 45; n < 300; n++ {
		want := api.OK
		if n == 298 {
			want = api.ErrIs
		}
		checkTakes(t, "all others are new yet", l, call{2, 5, n, want})
	}
	checkTakes(t, "all others are new yet", l, call{2, 5, 301, api.OK}, call{2, 6, 299, api.OK})
}

// P701: Stamp, Life and what is taken are not refused.
func TestRefused(t *testing.T) {
	l := New(0, 1)
	for i := range 100 {
		l.Stamp(i)
		l.Life(i)
		checkTakes(t, "taken", l, call{i, 1, 1, api.OK})
	}
	if l.Refused() != 0 {
		t.Errorf("%d refused, not 0", l.Refused())
	}
	for i := range 100 {
		checkTakes(t, "refused", l, call{i, 1, 1, api.ErrIs}, call{-i, 0, 1, api.ErrArg})
		l.Stamp(i)
		l.Life(i)
	}
	if l.Refused() != 200 {
		t.Errorf("%d refused, not 200", l.Refused())
	}
}

// P7: of two links the one knows nothing of the other, though they are of one node in one life.
func TestTwoLinks(t *testing.T) {
	a, b := New(1, 2), New(1, 2)
	checkStamp(t, "the one", a, 3, 2, 1)
	checkStamp(t, "the one", a, 3, 2, 2)
	checkStamp(t, "the other", b, 3, 2, 1)
	checkTakes(t, "the one", a, call{3, 4, 5, api.OK}, call{3, 4, 5, api.ErrIs}, call{3, 3, 5, api.ErrStale})
	checkLife(t, "the other", b, 3, 0)
	if b.Refused() != 0 {
		t.Errorf("the other: %d refused", b.Refused())
	}
	checkTakes(t, "the other", b, call{3, 3, 5, api.OK})
	checkLife(t, "the other", b, 3, 3)
	checkLife(t, "the one", a, 3, 4)
	checkStamp(t, "the one", a, 3, 2, 3)
}

// P701: the error inside is of its number, however it is asked, and says which message it was.
func TestRefusal(t *testing.T) {
	h := heard{}.taking(3, 300)
	for _, x := range []struct {
		life, n int
		want    api.Errno
	}{{0, 301, api.ErrArg}, {3, 0, api.ErrArg}, {2, 301, api.ErrStale}, {3, 300, api.ErrIs}, {3, 44, api.ErrIs}} {
		err := h.refuse(x.life, x.n)
		for _, e := range []api.Errno{api.ErrArg, api.ErrStale, api.ErrIs} {
			if errors.Is(err, e) != (e == x.want) {
				t.Errorf("%d, %d: %v is %v: %t", x.life, x.n, err, e, e != x.want)
			}
		}
		if s := err.Error(); !strings.HasPrefix(s, "message "+strconv.Itoa(x.n)+" of life "+strconv.Itoa(x.life)+": ") || !strings.HasSuffix(s, x.want.Error()) {
			t.Errorf("%d, %d: says %q", x.life, x.n, s)
		}
	}
	if err := h.refuse(3, 45); err != nil {
		t.Errorf("45: %v", err)
	}
}
