package client

import (
	"math"
	"slices"
	"strconv"
	"testing"

	"synodal/api"
)

// picks is a row of numbers that hang on a first one.
type picks uint32

func (x *picks) next(count int) int {
	*x = *x*1664525 + 1013904223
	return int(*x>>8) % count
}

// drawnEntry is one of a few clients, that mostly may be placed.
func drawnEntry(x *picks, round int) api.Entry {
	e := api.Entry{Kind: list(api.KData, api.KConf, api.KMigrate)[x.next(3)], Client: 1 + x.next(8), Seq: 1 + round/8 + x.next(9)}
	switch e.Kind {
	case api.KData:
		e.Data = strconv.Itoa(round)
	case api.KConf:
		e.Members = make([]int, x.next(8))
		for i := range e.Members {
			e.Members[i] = x.next(9)
		}
	case api.KMigrate:
		e.To = 1 + x.next(2)
	}
	switch x.next(12) {
	case 0:
		e.Kind = fillers[x.next(len(fillers))]
	case 1:
		e.Client = numbers[x.next(len(numbers))]
	case 2:
		e.Seq = numbers[x.next(8)]
	case 3:
		e.Client, e.Seq = math.MaxInt-x.next(3), math.MaxInt-x.next(3)
	}
	return e
}

// counts tells by the chapter's words whether an entry is placed behind these.
func counts(all []api.Entry, e api.Entry) bool {
	if e.Kind != api.KData && e.Kind != api.KConf && e.Kind != api.KMigrate || e.Client < 1 || e.Seq < 1 {
		return false
	}
	return !slices.ContainsFunc(all, func(x api.Entry) bool { return x.Client == e.Client && x.Seq >= e.Seq })
}

// placeOf tells by the chapter's words what Ask answers where these were placed.
func placeOf(all []api.Entry, client, seq int) (int, api.Errno) {
	if client < 1 || seq < 1 {
		return 0, api.ErrArg
	}
	e := api.ErrNone
	for i, x := range all {
		if x.Client == client && x.Seq == seq {
			return i + 1, api.OK
		}
		if x.Client == client && x.Seq > seq {
			e = api.ErrStale
		}
	}
	return 0, e
}

// visible is the visible log of all that is put, by W4: the requests that are no filler, each the first time that it comes, and only if no later one of that client's came ahead of it.
func visible(all []api.Entry) []api.Entry {
	var out []api.Entry
	for i, e := range all {
		filler := e.Kind == api.KNone || e.Kind == api.KDone || e.Kind < 0 || e.Kind > api.KDone
		if filler || e.Client < 1 || e.Seq < 1 {
			continue
		}
		if !slices.ContainsFunc(visible(all[:i]), func(x api.Entry) bool { return x.Client == e.Client && x.Seq >= e.Seq }) {
			out = append(out, e)
		}
	}
	return out
}

// checkLaw is P1802: each request has one place at most, that which Ask tells; a client's places rise with their Seqs.
func checkLaw(t *testing.T, x *Table) {
	t.Helper()
	type request struct{ client, seq int }
	places, last := map[request]int{}, map[int]request{}
	for i, e := range x.All() {
		r := request{e.Client, e.Seq}
		if places[r] != 0 {
			t.Fatalf("P1802: request %d of client %d stands at %d and at %d", e.Seq, e.Client, places[r], i+1)
		}
		places[r] = i + 1
		if before := last[e.Client]; before.seq >= e.Seq {
			t.Fatalf("P1802: of client %d stands %d behind %d", e.Client, e.Seq, before.seq)
		}
		last[e.Client] = r
		if at, errno := x.Ask(e.Client, e.Seq); at != i+1 || errno != api.OK {
			t.Fatalf("P1802: Ask(%d, %d): %d, %v, not %d", e.Client, e.Seq, at, errno, i+1)
		}
	}
}

// P1801, P1802, P3, P5: long rows of drawn entries put to two tables, against the words of the chapter; both answer the same, and what is not placed changes nothing.
func TestLongRows(t *testing.T) {
	placed, refused := 0, 0
	answers := map[api.Errno]int{}
	for seed := range 200 {
		x := picks(seed)
		table, twin := New(), New()
		var all []api.Entry
		for round := range 150 {
			e := drawnEntry(&x, round)
			want := counts(all, e)
			at, is := table.Put(e)
			if again, isAgain := twin.Put(e); again != at || isAgain != is {
				t.Fatalf("P3: Put(%+v): %d, %v, and %d, %v", e, at, is, again, isAgain)
			}
			if want {
				all = append(all, e)
				placed++
			} else {
				refused++
			}
			if is != want || is && at != len(all) || !is && at != 0 {
				t.Fatalf("P1801: Put(%+v): %d, %v, not %v", e, at, is, want)
			}
			if table.Len() != len(all) || !slices.EqualFunc(table.All(), all, same) {
				t.Fatalf("P1801, P5: %+v, not %+v", table.All(), all)
			}
			for range 5 {
				asked := drawnEntry(&x, round+x.next(20))
				place, errno := placeOf(all, asked.Client, asked.Seq)
				ask(t, table, asked.Client, asked.Seq, place, errno)
				answers[errno]++
			}
		}
		checkLaw(t, table)
	}
	if placed < 4000 || refused < 4000 {
		t.Errorf("hardly asked: %d placed, %d refused", placed, refused)
	}
	for _, e := range []api.Errno{api.OK, api.ErrArg, api.ErrStale, api.ErrNone} {
		if answers[e] < 1000 {
			t.Errorf("hardly asked: %v %d times", e, answers[e])
		}
	}
}

// P1801, P1802: all rows of up to five entries of two clients with Seqs up to 3, and a filler: All is the visible log, each front of it that of a front of the row (T1).
func TestShortRows(t *testing.T) {
	choices := []api.Entry{{Kind: api.KDone, Client: 1, Seq: 3}}
	for seq := range 3 {
		choices = append(choices, data(1, seq+1), data(2, seq+1))
	}
	rows := 1
	for range 5 {
		rows *= len(choices)
	}
	for n := range rows {
		var row []api.Entry
		for rest := n; len(row) < 5; rest /= len(choices) {
			row = append(row, choices[rest%len(choices)])
		}
		x := New()
		for i, e := range row {
			before := x.All()
			x.Put(e)
			after := x.All()
			if len(after) < len(before) || !slices.EqualFunc(after[:len(before)], before, same) {
				t.Fatalf("P1801, T1: %+v is no front of %+v", before, after)
			}
			if i == 4 && !slices.EqualFunc(after, visible(row), same) {
				t.Fatalf("P1801, W4: of %+v: %+v, not %+v", row, after, visible(row))
			}
		}
		checkLaw(t, x)
	}
}
