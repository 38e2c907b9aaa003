package spec

import (
	"slices"
	"testing"

	"synodal/api"
)

// checkLaw is P1903, of a trace of which all events may be: all reads fit one another, and each request has one place, which is no other one's.
func checkLaw(t *testing.T, l []api.Event) {
	t.Helper()
	for i, e := range l {
		for _, x := range l[:i] {
			if e.Kind == api.TRead && x.Kind == api.TRead && !(Fits(e.Entries, x.Entries) && Fits(x.Entries, e.Entries)) {
				t.Fatalf("P1903: %+v does not fit %+v", e.Entries, x.Entries)
			}
		}
	}
	type request struct{ client, seq int }
	places, holders := map[request]int{}, map[int]request{}
	for _, s := range standing(l) {
		r := request{s.client, s.seq}
		place, placed := places[r]
		holder, held := holders[s.place]
		if placed && place != s.place || held && holder != r {
			t.Fatalf("P1903: %v at %d, where stands %v; it stands at %d: %+v", r, s.place, holder, place, l)
		}
		places[r], holders[s.place] = s.place, r
	}
}

// small are events of few requests that often may not be behind one another.
func small() []api.Event {
	odd, late, short := a1, read(a1), done(b1, 0)
	odd.Data = "odd"
	late.Index = 2
	return trace(
		call(a1), call(a2), call(b1), call(odd),
		done(a1, 1), done(a1, 2), done(a2, 1), done(b1, 2), done(b1, 3), short,
		read(), read(a1), read(a1, a2), read(a2, a1), read(a1, b1), read(b1, a1), read(a1, a1), read(a1, b1, a2), read(odd), late,
		api.Event{},
	)
}

// walk holds Check against the chapter's words behind each row of at most so many small events of which all may be, and counts the answers.
func walk(t *testing.T, row []api.Event, more int, count *[2]int) {
	t.Helper()
	for _, e := range small() {
		l := append(slices.Clone(row), e)
		want := len(row)
		if allowed(row, e) {
			want = -1
			count[0]++
			checkLaw(t, l)
		} else {
			count[1]++
		}
		if got := Check(l); got != want {
			t.Fatalf("P1902: %d, not %d, of %+v", got, want, l)
		}
		if want >= 0 {
			check(t, want, append(l, call(b1), e))
		} else if more > 1 {
			walk(t, l, more-1, count)
		}
	}
}

// P1902, P1903: all rows of up to six small events.
func TestShortRows(t *testing.T) {
	var count [2]int
	walk(t, nil, 6, &count)
	if count[0] < 10000 || count[1] < 10000 {
		t.Errorf("hardly asked: %d may be, %d may not", count[0], count[1])
	}
}

// rows tells all lists of up to so many of these.
func rows(of []api.Entry, most int) [][]api.Entry {
	out := [][]api.Entry{nil}
	for from := 0; most > 0; most-- {
		end := len(out)
		for _, l := range out[from:end] {
			for _, e := range of {
				out = append(out, append(slices.Clone(l), e))
			}
		}
		from = end
	}
	return out
}

// P1903, P1901: two reads of up to three of four requests: where each alone may be, and they do not fit, they may not be in one trace, whatever is between.
func TestPairsOfReads(t *testing.T) {
	of := entries(a1, a2, b1, b2)
	lists := rows(of, 3)
	unfit := 0
	for _, a := range lists {
		for _, b := range lists {
			both := min(len(a), len(b))
			want := slices.EqualFunc(a[:both], b[:both], same)
			if Fits(a, b) != want {
				t.Fatalf("P1901: %v, not %v, of %+v and %+v", !want, want, a, b)
			}
			l := calls(of, read(a...), call(a1), read(), read(b...))
			if want || Check(l[:7]) >= 0 {
				continue
			}
			unfit++
			check(t, 7, l)
		}
	}
	if unfit < 500 {
		t.Errorf("hardly asked: %d pairs do not fit", unfit)
	}
}

// picks is a row of numbers that hang on a first one.
type picks uint32

func (x *picks) next(count int) int {
	*x = *x*1664525 + 1013904223
	return int(*x>>8) % count
}

// pick tells one of some.
func pick[E any](x *picks, l []E) E { return l[x.next(len(l))] }

// drawnRequest is an entry of that request, of any kind that a client may ask for.
func drawnRequest(x *picks, client, seq int) api.Entry {
	e := data(client, seq)
	switch x.next(4) {
	case 0:
		e = api.Entry{Kind: api.KConf, Client: client, Seq: seq, Members: list(x.next(3), 3+x.next(3), 6+x.next(3))}
	case 1:
		e = api.Entry{Kind: api.KMigrate, Client: client, Seq: seq, To: 1 + x.next(2)}
	}
	return e
}

// story is a true trace, as a group of nodes with one log would make it, and what it rests on.
type story struct {
	log    []api.Entry // the visible log as it comes to be
	called []api.Entry // what was called, each once
	read   int         // so many of log were read, at the most
	placed []int       // places that were answered
	events []api.Event
}

// place has one of those that were called in the log, as the visible log has it: once, and behind no later one of that client's.
func (s *story) place(e api.Entry) {
	late := func(y api.Entry) bool { return y.Client == e.Client && y.Seq >= e.Seq }
	if !slices.ContainsFunc(s.log, late) {
		s.log = append(s.log, e)
	}
}

// step goes on by what is true: a request is called, or once more; some are placed; one that was placed is answered; a front of the log is read.
func (s *story) step(x *picks, next map[int]int) {
	switch x.next(8) {
	case 0, 1:
		client := 1 + x.next(4)
		next[client] += 1 + x.next(2)
		e := drawnRequest(x, client, next[client])
		s.called = append(s.called, e)
		s.events = append(s.events, call(e))
	case 2:
		if len(s.called) > 0 {
			s.events = append(s.events, call(pick(x, s.called)))
		}
	case 3, 4:
		for range min(2, len(s.called)) {
			s.place(pick(x, s.called))
		}
	case 5, 6:
		if len(s.log) > 0 {
			at := x.next(len(s.log)) + 1
			s.placed = append(s.placed, at)
			s.events = append(s.events, done(s.log[at-1], at))
		}
	case 7:
		n := x.next(len(s.log) + 1)
		s.read = max(s.read, n)
		s.events = append(s.events, read(s.log[:n]...))
	}
}

// drawnStory is a true trace of so many steps.
func drawnStory(x *picks, steps int) *story {
	s := &story{}
	next := map[int]int{}
	for range steps {
		s.step(x, next)
	}
	return s
}

// knownPlace tells a place that was answered or read, 0 if none was.
func (s *story) knownPlace(x *picks) int {
	places := slices.Clone(s.placed)
	for i := range s.read {
		places = append(places, i+1)
	}
	if len(places) == 0 {
		return 0
	}
	return pick(x, places)
}

// changed is the entry with one field that is another one.
func changed(x *picks, e api.Entry) api.Entry {
	switch x.next(4) {
	case 0:
		e.Kind = pick(x, list(api.KNone, api.KDone, e.Kind+7, -e.Kind))
	case 1:
		e.Data += "x"
	case 2:
		e.Members = append(slices.Clone(e.Members), 8)
	case 3:
		e.To += 1 + x.next(2)
	}
	return e
}

// faults make events that may not be behind a story, each of one kind of fault; one of kind 0 says that the story has nothing to make it of.
var faults = []func(*story, *picks) api.Event{
	func(s *story, x *picks) api.Event { // no kind
		return api.Event{Kind: -1 - x.next(5), Index: x.next(5), Client: 1, Seq: 1, Entry: a1}
	},
	func(s *story, x *picks) api.Event { // a filler is called
		e := data(9, 1)
		e.Kind = pick(x, list(api.KNone, api.KDone))
		return call(e)
	},
	func(s *story, x *picks) api.Event { // one is called in another one's name
		e := call(data(9, 1))
		e.Client += x.next(2)
		e.Seq += 1 - (e.Client - 9)
		return e
	},
	func(s *story, x *picks) api.Event { // one is called again with another entry
		if len(s.called) == 0 {
			return api.Event{}
		}
		return call(changed(x, pick(x, s.called)))
	},
	func(s *story, x *picks) api.Event { // what was not called is answered
		return done(data(9, 1+x.next(3)), len(s.log)+1)
	},
	func(s *story, x *picks) api.Event { // at a place below 1
		if len(s.called) == 0 {
			return api.Event{}
		}
		return done(pick(x, s.called), -x.next(3))
	},
	func(s *story, x *picks) api.Event { // what is known stands elsewhere
		at := s.knownPlace(x)
		if at == 0 {
			return api.Event{}
		}
		return done(s.log[at-1], at+1+x.next(3))
	},
	func(s *story, x *picks) api.Event { // another one stands where one is known
		at := s.knownPlace(x)
		if at == 0 {
			return api.Event{}
		}
		e := pick(x, s.called)
		if same(e, s.log[at-1]) {
			return api.Event{}
		}
		return done(e, at)
	},
	func(s *story, x *picks) api.Event { // a read that says another number
		e := read(s.log[:x.next(len(s.log)+1)]...)
		e.Index += pick(x, list(-1, 1, 2, 100))
		return e
	},
	func(s *story, x *picks) api.Event { // a read of what was not called
		at := x.next(len(s.log) + 1)
		return read(slices.Insert(slices.Clone(s.log), at, data(9, 1))...)
	},
	func(s *story, x *picks) api.Event { // a read with another entry
		if len(s.log) == 0 {
			return api.Event{}
		}
		l := slices.Clone(s.log)
		at := x.next(len(l))
		l[at] = changed(x, l[at])
		return read(l...)
	},
	func(s *story, x *picks) api.Event { // a read that lacks what stands ahead of what is known
		at := s.knownPlace(x)
		if at < 2 {
			return api.Event{}
		}
		gone := x.next(at - 1)
		return read(slices.Delete(slices.Clone(s.log), gone, gone+1)...)
	},
	func(s *story, x *picks) api.Event { // a read with one of them twice
		if len(s.log) == 0 {
			return api.Event{}
		}
		at := x.next(len(s.log))
		return read(slices.Insert(slices.Clone(s.log), at+x.next(len(s.log)-at+1), s.log[at])...)
	},
	func(s *story, x *picks) api.Event { // a read in which a client's Seqs fall
		l := slices.Clone(s.log)
		if len(l) == 0 {
			return api.Event{}
		}
		at := x.next(len(l))
		later := slices.IndexFunc(l[at+1:], func(e api.Entry) bool { return e.Client == l[at].Client })
		if later < 0 {
			return api.Event{}
		}
		later += at + 1
		l[at], l[later] = l[later], l[at]
		return read(l...)
	},
}

// P1902, P1903: of true traces all events may be, and what follows holds; a fault behind any part of one is told by its place, whatever comes behind it.
func TestTrueTraces(t *testing.T) {
	count := make([]int, len(faults))
	for seed := range 1500 {
		x := picks(seed)
		s := drawnStory(&x, 5+x.next(50))
		check(t, -1, s.events)
		checkLaw(t, s.events)
		rest := drawnStory(&x, 20).events
		for i, fault := range faults {
			e := fault(s, &x)
			if e.Kind == 0 {
				continue
			}
			count[i]++
			if at := Check(append(append(slices.Clone(s.events), e), rest...)); at != len(s.events) {
				t.Fatalf("P1902: fault %d (%+v) at %d: %d, of %+v", i, e, len(s.events), at, s.events)
			}
		}
	}
	for i, n := range count {
		if n < 300 {
			t.Errorf("hardly asked: fault %d %d times", i, n)
		}
	}
}

// drawnEvent is of few requests, such as often may be.
func drawnEvent(x *picks) api.Event {
	of := func() api.Entry { return data(1+x.next(3), 1+x.next(4)) }
	switch x.next(7) {
	case 0, 1, 2:
		return call(of())
	case 3, 4:
		return done(of(), x.next(8))
	case 5:
		e := read()
		for range x.next(4) {
			e.Entries = append(e.Entries, of())
		}
		e.Index = len(e.Entries)
		if x.next(9) == 0 {
			e.Index = x.next(5)
		}
		return e
	}
	e := call(of())
	if x.next(3) == 0 {
		e.Kind, e.Seq, e.Entry.Data = x.next(6)-1, x.next(4), "other"
	}
	return e
}

// P1902, P1903, P3: long drawn rows, against the words of the chapter: an event that may not be is told by its place, again and again, and then left out; of the others what follows holds.
func TestLongRows(t *testing.T) {
	good, bad := 0, 0
	for seed := range 300 {
		x := picks(seed + 5000)
		var row []api.Event
		for range 80 {
			e := drawnEvent(&x)
			l := append(slices.Clone(row), e)
			want := -1
			if !allowed(row, e) {
				want = len(row)
				bad++
			} else {
				row = l
				good++
			}
			if first, again := Check(l), Check(slices.Clone(l)); first != want || again != want {
				t.Fatalf("P1902, P3: %d, %d, not %d, of %+v", first, again, want, l)
			}
		}
		checkLaw(t, row)
	}
	if good < 5000 || bad < 5000 {
		t.Errorf("hardly asked: %d may be, %d may not", good, bad)
	}
}
