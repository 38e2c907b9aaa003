package fault

import (
	"errors"
	"fmt"
	"slices"
	"testing"

	"synodal/api"
)

// numbers are all that package api has but OK, and some that it has no name for.
var numbers = []api.Errno{
	api.ErrArg, api.ErrNone, api.ErrKind, api.ErrMany, api.ErrLong, api.ErrWord, api.ErrIs, api.ErrCut, api.ErrMore,
	api.ErrSum, api.ErrBad, api.ErrDead, api.ErrFull, api.ErrBusy, api.ErrLeader, api.ErrSeal, api.ErrGen, api.ErrStale,
	10, 20, 1 << 40, -1, -1 << 62,
}

// list is an error that can't be compared.
type list []string

func (l list) Error() string { return fmt.Sprint([]string(l)) }

// checkNumber holds all that tells an error's number against the number that it must be.
func checkNumber(t *testing.T, err error, want api.Errno) {
	t.Helper()
	if got := Kind(err); got != want {
		t.Errorf("Kind: %d, not %d", got, want)
	}
	var got api.Errno
	if !errors.As(err, &got) || got != want {
		t.Errorf("errors.As: %d, not %d", got, want)
	}
	for _, e := range append([]api.Errno{api.OK}, numbers...) {
		if errors.Is(err, e) != (e == want) {
			t.Errorf("errors.Is of the number %d with %d: %v", want, e, e != want)
		}
		if Is(err, e) != (e == want) {
			t.Errorf("Is of the number %d with %d: %v", want, e, e != want)
		}
	}
}

func checkWhere(t *testing.T, err error, want ...string) {
	t.Helper()
	if got := Where(err); !slices.Equal(got, want) {
		t.Errorf("Where: %q, not %q", got, want)
	}
}

// wrapped puts the places w1, w2 .. around an error.
func wrapped(err error, times int) error {
	for i := range times {
		err = Wrap(fmt.Sprint("w", i+1), err)
	}
	return err
}

// P101: an error with that place and that number.
func TestNew(t *testing.T) {
	for _, e := range numbers {
		for _, where := range []string{"here", "", "a: b", "\xff\x00"} {
			err := New(where, e)
			if err == nil {
				t.Fatalf("New(%q, %d): no error", where, e)
			}
			checkNumber(t, err, e)
			checkWhere(t, err, where)
		}
	}
}

// P101: the number OK is no error.
func TestNewOfOK(t *testing.T) {
	if err := New("here", api.OK); err != nil {
		t.Errorf("New of OK: %v", err)
	}
}

// P101: a place, and behind it all that the error has; the example of the chapter.
func TestWrap(t *testing.T) {
	inner := New("b", api.ErrFull)
	err := Wrap("a", inner)
	checkNumber(t, err, api.ErrFull)
	checkWhere(t, err, "a", "b")
	checkWhere(t, inner, "b")
	checkWhere(t, Wrap("", Wrap("a", err)), "", "a", "a", "b")
	if !errors.Is(err, inner) {
		t.Error("the error inside is not found")
	}
}

// P101: no error stays none.
func TestWrapOfNil(t *testing.T) {
	if err := Wrap("a", nil); err != nil {
		t.Errorf("Wrap of nil: %v", err)
	}
	if err := Wrap("a", New("b", api.OK)); err != nil {
		t.Errorf("Wrap of New of OK: %v", err)
	}
}

// P101: an error that has MaxWhere places gets no more, and has all else that it had.
func TestWrapOfFull(t *testing.T) {
	want := []string{"in"}
	err := New("in", api.ErrSeal)
	for i := range api.MaxWhere + 3 {
		checkWhere(t, err, want...)
		checkNumber(t, err, api.ErrSeal)
		where := fmt.Sprint("w", i)
		err = Wrap(where, err)
		if len(want) < api.MaxWhere {
			want = append([]string{where}, want...)
		}
	}
	if len(want) != api.MaxWhere {
		t.Fatalf("%d places, not %d", len(want), api.MaxWhere)
	}
}

// P101: places are counted where they are, behind what others put around an error, too.
func TestWrapOfFullInOther(t *testing.T) {
	full := wrapped(New("in", api.ErrSeal), api.MaxWhere-1)
	other := fmt.Errorf("other: %w", full)
	err := Wrap("more", other)
	checkWhere(t, err, Where(full)...)
	checkNumber(t, err, api.ErrSeal)
	if !errors.Is(err, other) {
		t.Error("what was around the places is not found")
	}
	fullOther := wrapped(errors.New("foreign"), api.MaxWhere+1)
	if l := Where(fullOther); len(l) != api.MaxWhere || l[0] != "w16" || l[api.MaxWhere-1] != "w1" {
		t.Errorf("an error without a number: %q", l)
	}
}

// P102: no error has the number OK, and no places.
func TestOfNil(t *testing.T) {
	if Kind(nil) != api.OK {
		t.Errorf("Kind of nil: %d", Kind(nil))
	}
	checkWhere(t, nil)
	for _, e := range numbers {
		if Is(nil, e) {
			t.Errorf("nil is of %d", e)
		}
	}
	if !Is(nil, api.OK) {
		t.Error("nil is not of OK")
	}
}

// P102: an api.Errno itself is an error without places.
func TestOfErrno(t *testing.T) {
	for _, e := range numbers {
		checkNumber(t, e, e)
		checkWhere(t, e)
		err := Wrap("a", e)
		checkNumber(t, err, e)
		checkWhere(t, err, "a")
	}
}

// P102: Kind and Is tell ErrBad, and it alone, of the number 0 and of an error that has none.
func TestOfBad(t *testing.T) {
	foreign := errors.New("foreign")
	for _, inner := range []error{api.OK, foreign, list{"a"}, fmt.Errorf("other: %w", foreign), fmt.Errorf("other: %w", api.OK), errors.Join(foreign, list{"a"})} {
		checkWhere(t, inner)
		for i, err := range []error{inner, Wrap("a", inner), Wrap("b", Wrap("a", inner))} {
			if Kind(err) != api.ErrBad {
				t.Errorf("Kind of %v: %d", err, Kind(err))
			}
			for _, e := range append([]api.Errno{api.OK}, numbers...) {
				if Is(err, e) != (e == api.ErrBad) {
					t.Errorf("Is of %v with %d", err, e)
				}
			}
			checkWhere(t, err, []string{"b", "a"}[2-i:]...)
		}
	}
}

// P101: all that an error has: what it was is found inside, if it has no number, too.
func TestWrapKeepsWhatItWraps(t *testing.T) {
	foreign := errors.New("foreign")
	err := Wrap("b", Wrap("a", fmt.Errorf("other: %w", foreign)))
	if !errors.Is(err, foreign) || errors.Is(err, errors.New("foreign")) {
		t.Error("errors.Is of a foreign error")
	}
	var l list
	if !errors.As(Wrap("a", list{"x", "y"}), &l) || !slices.Equal(l, list{"x", "y"}) {
		t.Errorf("errors.As of a foreign error: %q", l)
	}
	if errors.Is(Wrap("a", list{"x"}), Wrap("a", list{"x"})) {
		t.Error("two errors are one")
	}
}

// P102: the number and the places are found behind what others put around an error.
func TestBehindOthers(t *testing.T) {
	err := fmt.Errorf("other: %w", New("a", api.ErrGen))
	checkNumber(t, err, api.ErrGen)
	checkWhere(t, err, "a")
	err = Wrap("c", fmt.Errorf("other: %w", Wrap("b", err)))
	checkNumber(t, err, api.ErrGen)
	checkWhere(t, err, "c", "b", "a")
	err = Wrap("d", errors.Join(errors.New("foreign"), err))
	checkNumber(t, err, api.ErrGen)
	checkWhere(t, err, "d", "c", "b", "a")
}

// P102, P9: of several numbers the first one in their order is taken.
func TestFirstOfSeveral(t *testing.T) {
	err := Wrap("x", errors.Join(New("a", api.ErrFull), New("b", api.ErrDead)))
	if Kind(err) != api.ErrFull || !Is(err, api.ErrFull) || Is(err, api.ErrDead) {
		t.Errorf("Kind: %d", Kind(err))
	}
	checkWhere(t, err, "x", "a")
}

// P103: however often it is wrapped an error is of its number.
func TestNumberStays(t *testing.T) {
	for _, e := range numbers {
		err := New("in", e)
		for range 3 * api.MaxWhere {
			checkNumber(t, err, e)
			err = Wrap("out", err)
		}
		checkNumber(t, wrapped(err, 10000), e)
	}
	if err := wrapped(errors.New("foreign"), 10000); Kind(err) != api.ErrBad {
		t.Errorf("of no number: %d", Kind(err))
	}
}

// P2: what Where answers is new memory, its spare room too.
func TestWhereIsNew(t *testing.T) {
	err := wrapped(New("in", api.ErrCut), 4)
	want := []string{"w4", "w3", "w2", "w1", "in"}
	first, second := Where(err), Where(err)
	clear(first[:cap(first)])
	checkWhere(t, err, want...)
	if !slices.Equal(second, want) {
		t.Errorf("another answer is changed: %q", second)
	}
	_ = append(second, "z")
	checkWhere(t, Wrap("a", err), append([]string{"a"}, want...)...)
	checkWhere(t, Wrap("b", err), append([]string{"b"}, want...)...)
	checkWhere(t, err, want...)
}

// P3: the same calls answer the same; P5: a call changes nothing of the error that it is given.
func TestSameAgain(t *testing.T) {
	err := wrapped(New("in", api.ErrIs), 3)
	text := err.Error()
	for range 3 {
		_ = Wrap("other", err)
		checkNumber(t, err, api.ErrIs)
		checkWhere(t, err, "w3", "w2", "w1", "in")
		if err.Error() != text {
			t.Errorf("the text is now %q", err.Error())
		}
	}
}

// P1: the text of an error tells its places and its number, and is made without a panic.
func TestText(t *testing.T) {
	for text, err := range map[string]error{
		"a: b: full": Wrap("a", New("b", api.ErrFull)),
		": error":    New("", 10),
		"a: ok":      Wrap("a", api.OK),
		"a: [x]":     Wrap("a", list{"x"}),
	} {
		if err.Error() != text {
			t.Errorf("%q, not %q", err.Error(), text)
		}
	}
}
