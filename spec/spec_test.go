package spec

import (
	"math"
	"slices"
	"strconv"
	"testing"

	"synodal/api"
)

func list(numbers ...int) []int { return numbers }

// data is a request that says in its bytes whose it is.
func data(client, seq int) api.Entry {
	return api.Entry{Kind: api.KData, Client: client, Seq: seq, Data: strconv.Itoa(client) + "." + strconv.Itoa(seq)}
}

// Some requests, of two clients.
var (
	a1, a2, a3 = data(1, 1), data(1, 2), data(1, 3)
	b1, b2     = data(2, 1), data(2, 2)
)

func call(e api.Entry) api.Event {
	return api.Event{Kind: api.TCall, Client: e.Client, Seq: e.Seq, Entry: e}
}

func done(e api.Entry, at int) api.Event {
	return api.Event{Kind: api.TDone, Client: e.Client, Seq: e.Seq, Index: at}
}

func read(l ...api.Entry) api.Event {
	return api.Event{Kind: api.TRead, Index: len(l), Entries: l}
}

func trace(l ...api.Event) []api.Event { return l }

// calls are the events that call these, and what comes behind them.
func calls(l []api.Entry, behind ...api.Event) []api.Event {
	var out []api.Event
	for _, e := range l {
		out = append(out, call(e))
	}
	return append(out, behind...)
}

func entries(l ...api.Entry) []api.Entry { return l }

// check holds what Check answers against the place that it must tell.
func check(t *testing.T, want int, l []api.Event) {
	t.Helper()
	if got := Check(l); got != want {
		t.Errorf("P1902: %d, not %d, of %+v", got, want, l)
	}
}

// may is a trace of which all events may be.
func may(t *testing.T, l ...api.Event) {
	t.Helper()
	check(t, -1, l)
}

// mayNot is a trace of which all events but the last one may be; what comes behind it is not looked at.
func mayNot(t *testing.T, l ...api.Event) {
	t.Helper()
	last := len(l) - 1
	check(t, -1, l[:last])
	check(t, last, l)
	for _, behind := range trace(call(a1), call(data(7, 7)), read(), api.Event{Kind: 9}) {
		check(t, last, append(slices.Clone(l), behind))
	}
}

// full is an entry with something in each of its fields.
func full() api.Entry {
	return api.Entry{Kind: api.KConf, Client: 3, Seq: 7, Data: "data", Members: list(0, 1, 2), To: api.Chain}
}

// unlike are entries such as full, but for one field.
func unlike() []api.Entry {
	out := make([]api.Entry, 16)
	for i := range out {
		out[i] = full()
	}
	out[0].Kind = api.KData
	out[1].Kind = api.KMigrate
	out[2].Client = 4
	out[3].Client = -3
	out[4].Seq = 8
	out[5].Seq = 6
	out[6].Data = ""
	out[7].Data = "dat"
	out[8].Data = "datA"
	out[9].Data = "data\x00"
	out[10].Members = nil
	out[11].Members = list(0, 1)
	out[12].Members = list(0, 1, 3)
	out[13].Members = list(0, 1, 2, 3)
	out[14].To = api.Raft
	out[15].To = 0
	return out
}

// fits holds what Fits answers of two lists, either way round, against what it must.
func fits(t *testing.T, a, b []api.Entry, want bool) {
	t.Helper()
	if Fits(a, b) != want || Fits(b, a) != want {
		t.Errorf("P1901: %v, %v, not %v, of %+v and %+v", Fits(a, b), Fits(b, a), want, a, b)
	}
}

// P1901: with nothing in one of both, or in both, be it no list or an empty one.
func TestFitsOfNone(t *testing.T) {
	for _, none := range [][]api.Entry{nil, {}, entries(a1, a2)[:0]} {
		fits(t, none, nil, true)
		fits(t, none, entries(), true)
		fits(t, none, entries(api.Entry{}), true)
		fits(t, none, entries(a1), true)
		fits(t, none, entries(a1, b1, a2), true)
	}
}

// P1901: the same list, one longer, one that is another from some place on.
func TestFits(t *testing.T) {
	all := entries(a1, b1, a2, b2, a3)
	for n := range len(all) + 1 {
		for m := range len(all) + 1 {
			fits(t, all[:n], all[:m], true)
			fits(t, slices.Clone(all[:n]), slices.Clone(all[:m]), true)
			for at := range n {
				other := slices.Clone(all[:n])
				other[at] = data(9, 9)
				fits(t, other, all[:m], at >= m)
			}
		}
	}
	fits(t, entries(a1), entries(b1), false)
	fits(t, entries(a1, b1), entries(b1), false)
	fits(t, entries(a1, b1), entries(b1, a1), false)
	fits(t, entries(a1, b1), entries(b1, a1, a2), false)
	fits(t, entries(a1, a1), entries(a1), true)
	fits(t, entries(a1, a1), entries(a1, b1), false)
}

// P1901: of entries each field counts, at each place that both have.
func TestFitsFields(t *testing.T) {
	for _, e := range unlike() {
		fits(t, entries(full()), entries(e), false)
		fits(t, entries(a1, full()), entries(a1, e), false)
		fits(t, entries(a1, full(), a2), entries(a1, e, a2), false)
		fits(t, entries(full(), a1), entries(e), false)
		fits(t, entries(a1, full()), entries(a1), true)
		fits(t, entries(e), entries(e, full()), true)
	}
	fits(t, entries(full()), entries(full()), true)
}

// P1901, P2: no members and an empty list of them are the same; spare room is none of a list.
func TestFitsMembers(t *testing.T) {
	lists := [][]int{nil, {}, list(1, 2)[:0]}
	for _, l := range lists {
		for _, other := range lists {
			a, b := full(), full()
			a.Members, b.Members = l, other
			fits(t, entries(a, a1), entries(b, a1), true)
		}
	}
	a := full()
	a.Members = list(0, 1, 2, 3)[:3]
	fits(t, entries(a), entries(full()), true)
	a.Members = list(0, 1, 2, 3)[:2]
	fits(t, entries(a), entries(full()), false)
}

// P1901: entries are asked nothing but whether they are the same.
func TestFitsAnything(t *testing.T) {
	odd := entries(
		api.Entry{},
		api.Entry{Kind: -1, Client: math.MinInt, Seq: math.MaxInt, To: 77},
		api.Entry{Kind: api.KNone, Client: 1, Seq: 1}, api.Entry{Kind: api.KDone, Client: 1, Seq: 1},
		a2, a1, a1,
	)
	for n := range len(odd) + 1 {
		fits(t, odd, odd[:n], true)
	}
	fits(t, odd[2:3], odd[3:], false)
}

// P1902: no event.
func TestNoEvent(t *testing.T) {
	check(t, -1, nil)
	check(t, -1, trace())
	check(t, -1, trace(read(a1))[:0])
}

// kinds are such as no event has.
var kinds = list(0, -1, -2, -3, 4, 5, 9, 255, 256, 257, 258, 259, 1<<32+1, 1<<32+2, 1<<32+3, math.MaxInt, math.MinInt, math.MinInt+1)

// P1902: an event of a kind that there is none of may not be, whatever else it says.
func TestKindsOfEvents(t *testing.T) {
	for _, kind := range kinds {
		mayNot(t, api.Event{Kind: kind})
		for _, e := range trace(call(a1), call(a2), done(a1, 1), done(a2, 3), read(), read(a1), read(a1, a2)) {
			may(t, call(a1), call(a2), e)
			e.Kind = kind
			mayNot(t, call(a1), call(a2), e)
		}
	}
}

// P1902: of the kinds of entries only those of clients can be called.
func TestCallKinds(t *testing.T) {
	for _, kind := range list(api.KData, api.KConf, api.KMigrate) {
		e := api.Entry{Kind: kind, Client: 1, Seq: 1}
		may(t, call(e), call(e), done(e, 1), read(e))
	}
	for _, kind := range list(api.KNone, api.KDone, 5, 6, 15, 255, 256, 257, 1<<32+1, math.MaxInt, -1, -2, -3, math.MinInt, math.MinInt+1) {
		mayNot(t, call(api.Entry{Kind: kind, Client: 1, Seq: 1}))
		mayNot(t, call(a1), call(api.Entry{Kind: kind, Client: 1, Seq: 2}))
		e := a1
		e.Kind = kind
		mayNot(t, call(a1), call(e))
	}
}

// numbers are such as no client and no request has, and the ends of those that they have.
var numbers = list(math.MinInt, math.MinInt+1, -1<<40, -2, -1, 0, 1, 2, 3, 9, 1<<40, math.MaxInt-1, math.MaxInt)

// P1902: the entry's numbers are the event's, from 1 on, up to the greatest int.
func TestCallNumbers(t *testing.T) {
	for _, client := range numbers {
		for _, seq := range numbers {
			e := data(client, seq)
			if client > 0 && seq > 0 {
				may(t, call(e), call(e), done(e, 1), read(e))
			} else {
				mayNot(t, call(e))
			}
			for _, other := range numbers {
				of := call(e)
				if of.Client = other; other != client {
					mayNot(t, of)
				}
				of = call(e)
				if of.Seq = other; other != seq {
					mayNot(t, of)
				}
			}
		}
	}
	swapped := call(data(1, 2))
	swapped.Client, swapped.Seq = 2, 1
	mayNot(t, swapped)
	mayNot(t, call(data(2, 1)), swapped)
}

// P1902: a request is called again with the same entry; one that is unlike in any field is another one's, or may not be.
func TestCallAgain(t *testing.T) {
	may(t, call(full()), call(full()), call(a1), call(full()), call(a1))
	for _, e := range unlike() {
		switch {
		case e.Client < 1:
			mayNot(t, call(full()), call(e))
		case e.Client != full().Client || e.Seq != full().Seq:
			may(t, call(full()), call(e), call(full()), call(e))
		default:
			mayNot(t, call(full()), call(e))
			mayNot(t, call(full()), call(a1), call(full()), call(e))
			mayNot(t, call(e), done(e, 4), read(), call(full()))
			mayNot(t, call(e), read(e), call(e), call(full()))
		}
	}
}

// P1902, P2: no members and an empty list of them are the same.
func TestCallNoMembers(t *testing.T) {
	lists := [][]int{nil, {}, list(1, 2)[:0]}
	for _, l := range lists {
		for _, other := range lists {
			a, b := full(), full()
			a.Members, b.Members = l, other
			may(t, call(a), call(b), read(b), read(a))
		}
	}
}

// P1902: a client's requests may be called in any order, and behind what stands.
func TestCallOrder(t *testing.T) {
	may(t, call(a3), call(a1), call(a2), call(b2), call(b1))
	may(t, call(a1), call(a3), read(a1, a3), call(a2), call(b1))
	may(t, call(a2), done(a2, 1), call(a1), done(a1, 2))
	may(t, call(a1), done(a1, 1), call(a1), read(a1), call(a1))
}

// P1902: only what was called is answered.
func TestDoneOfNotCalled(t *testing.T) {
	mayNot(t, done(a1, 1))
	mayNot(t, call(a1), done(a2, 1))
	mayNot(t, call(a1), done(b1, 1))
	mayNot(t, call(data(1, 2)), done(data(2, 1), 1))
	mayNot(t, call(a1), done(a1, 1), done(a2, 2))
	mayNot(t, call(a1), read(a1), done(a2, 1))
	for _, n := range list(0, -1, math.MinInt) {
		mayNot(t, call(a1), done(data(1, n), 1))
		mayNot(t, call(a1), done(data(n, 1), 1))
		mayNot(t, call(a1), done(data(n, n), 1))
	}
}

// P1902: places are from 1 on, up to the greatest int, with gaps below them or without.
func TestDonePlaces(t *testing.T) {
	for _, at := range numbers {
		if at < 1 {
			mayNot(t, call(a1), done(a1, at))
			mayNot(t, call(a1), done(a1, 1), done(a1, at))
			mayNot(t, call(a1), call(a2), read(a1), done(a2, at))
			continue
		}
		may(t, call(a1), done(a1, at), done(a1, at))
		mayNot(t, call(a1), call(a2), done(a1, at), done(a2, at))
		for _, other := range numbers {
			switch {
			case other == at:
			case other < 1:
				mayNot(t, call(a1), done(a1, at), done(a1, other))
			default:
				may(t, call(a1), call(a2), done(a1, at), done(a2, other), done(a1, at))
				mayNot(t, call(a1), done(a1, at), done(a1, other))
			}
		}
	}
}

// P1902: an answer holds what other answers told.
func TestDoneBehindDone(t *testing.T) {
	all := calls(entries(a1, a2, b1, b2), done(a1, 2), done(b1, 5), done(a2, 3))
	behind := func(e api.Event) []api.Event { return append(slices.Clone(all), e) }
	for _, e := range trace(done(a1, 2), done(b1, 5), done(a2, 3), done(b2, 1), done(b2, 4), done(b2, 6), done(b2, 1<<40)) {
		may(t, behind(e)...)
	}
	for _, e := range trace(done(a1, 1), done(a1, 3), done(a1, 4), done(b1, 4), done(b1, 3), done(a2, 2), done(b2, 2), done(b2, 3), done(b2, 5)) {
		mayNot(t, behind(e)...)
	}
}

// P1902: an answer holds what was read.
func TestDoneBehindRead(t *testing.T) {
	all := calls(entries(a1, a2, b1, b2), read(a1, b1, a2))
	behind := func(e api.Event) []api.Event { return append(slices.Clone(all), e) }
	for _, e := range trace(done(a1, 1), done(b1, 2), done(a2, 3), done(b2, 4), done(b2, 9)) {
		may(t, behind(e)...)
		may(t, append(behind(e), e, read(a1), e)...)
	}
	for _, e := range trace(done(a1, 2), done(a1, 4), done(b1, 1), done(b1, 3), done(a2, 2), done(a2, 4), done(b2, 1), done(b2, 2), done(b2, 3)) {
		mayNot(t, behind(e)...)
	}
}

// P1902: answers do not ask in which order a client's requests stand; only a read does.
func TestDoneOrder(t *testing.T) {
	may(t, calls(entries(a1, a2), done(a2, 1), done(a1, 2))...)
	mayNot(t, calls(entries(a1, a2), done(a2, 1), done(a1, 2), read(a2, a1))...)
	may(t, calls(entries(a1, a2), done(a2, 1), done(a1, 2), read(a2))...)
}

// P1902: a read says how many it has.
func TestReadIndex(t *testing.T) {
	all := entries(a1, b1, a2)
	for n := range len(all) + 1 {
		for _, index := range append(slices.Clone(numbers), 4, 5) {
			e := read(all[:n]...)
			e.Index = index
			if index == n {
				may(t, calls(all, e)...)
				may(t, calls(all, read(all[:n]...), e)...)
			} else {
				mayNot(t, calls(all, e)...)
				mayNot(t, calls(all, read(all[:n]...), e)...)
			}
		}
	}
	may(t, read())
	may(t, api.Event{Kind: api.TRead}, api.Event{Kind: api.TRead, Entries: entries()})
	mayNot(t, api.Event{Kind: api.TRead, Index: 1})
	mayNot(t, api.Event{Kind: api.TRead, Index: -1})
}

// P1902: only what was called is read.
func TestReadOfNotCalled(t *testing.T) {
	mayNot(t, read(a1))
	mayNot(t, read(api.Entry{}))
	mayNot(t, call(a1), read(a2))
	mayNot(t, call(a1), read(b1))
	mayNot(t, call(a1), read(a1, a2))
	mayNot(t, call(a1), call(a3), read(a1, a2, a3))
	mayNot(t, call(a1), read(a1), read(a1, a2))
	mayNot(t, read(), read(a1))
	mayNot(t, call(a1), read(api.Entry{Kind: api.KNone}))
	mayNot(t, call(a1), read(a1, api.Entry{Kind: api.KDone, Client: 1, Seq: 2}))
	may(t, call(a1), read(a1), call(a2), read(a1, a2))
}

// P1902: what is read is the entry that was called, in each field.
func TestReadOfAnother(t *testing.T) {
	for _, e := range unlike() {
		mayNot(t, call(full()), read(e))
		mayNot(t, call(a1), call(full()), read(a1, e))
		mayNot(t, call(full()), call(a1), read(e, a1))
		mayNot(t, call(full()), read(full()), read(e))
		mayNot(t, call(full()), done(full(), 1), read(e))
	}
	for _, kind := range list(api.KNone, api.KDone, 5, -1) {
		e := full()
		e.Kind = kind
		mayNot(t, call(full()), read(e))
	}
	may(t, call(full()), read(full()), read(full()))
}

// P1902: a read holds what answers told: each request at its place, each place its request's.
func TestReadBehindDone(t *testing.T) {
	all := entries(a1, a2, b1, b2)
	may(t, calls(all, done(b1, 2), read(a1, b1, a2))...)
	may(t, calls(all, done(b1, 2), read(a1))...)
	may(t, calls(all, done(b1, 2), read(a2, b1, b2), read(a2))...)
	may(t, calls(all, done(a2, 3), done(b2, 4), read(a1, b1, a2, b2))...)
	mayNot(t, calls(all, done(b1, 2), read(b1))...)
	mayNot(t, calls(all, done(b1, 2), read(a1, a2))...)
	mayNot(t, calls(all, done(b1, 2), read(a1, a2, b1))...)
	mayNot(t, calls(all, done(b1, 9), read(b1))...)
	mayNot(t, calls(all, done(b1, 9), read(a1, b1))...)
	mayNot(t, calls(all, done(b1, 1), read(a1))...)
	mayNot(t, calls(all, done(b1, 1), read(a1, b1))...)
}

// P1902: a read holds what was read: all that both have is the same.
func TestReadBehindRead(t *testing.T) {
	all := entries(a1, a2, a3, b1, b2)
	may(t, calls(all, read(a1, b1), read(a1, b1, a2), read(a1), read(), read(a1, b1, a2, b2), read(a1, b1))...)
	for _, l := range [][]api.Entry{{b1}, {a2}, {b1, a1}, {a1, a2}, {a1, b1, a3}, {a1, b2}, {a1, a2, b1}, {b2, a1, b1, a2}} {
		mayNot(t, calls(all, read(a1, b1, a2), read(l...))...)
	}
	may(t, calls(all, read(a1, b1, a2), read(a1, b1, a2, a3))...)
	may(t, calls(all, read(a1, b1, a2), read(a1, b1, a2, b2, a3))...)
}

// P1902: what a read places at its first and its last place stays there, as what an answer places.
func TestReadPlacesAll(t *testing.T) {
	var all []api.Entry
	for i := range 30 {
		all = append(all, data(1+i%4, 1+i))
	}
	other := data(5, 1)
	for n := range len(all) {
		may(t, calls(append(entries(other), all...), read(all[:n]...), done(other, n+1))...)
		mayNot(t, calls(append(entries(other), all...), read(all[:n+1]...), done(other, n+1))...)
		mayNot(t, calls(all, read(all[:n+1]...), done(all[n], n+2))...)
		may(t, calls(all, read(all[:n+1]...), done(all[n], n+1), read(all...))...)
		mayNot(t, calls(append(entries(other), all...), done(other, n+1), read(all...))...)
		mayNot(t, calls(all, done(all[n], n+2), read(all...))...)
	}
}

// P1902: no request is in one read twice, whatever stands between.
func TestReadTwice(t *testing.T) {
	all := entries(a1, a2, b1, b2)
	mayNot(t, calls(all, read(a1, a1))...)
	mayNot(t, calls(all, read(a1, b1, a1))...)
	mayNot(t, calls(all, read(b1, a1, b2, a1))...)
	mayNot(t, calls(all, done(a1, 1), read(a1, a1))...)
	mayNot(t, calls(all, done(a1, 2), read(a1, a1))...)
	mayNot(t, calls(all, read(a1), read(a1, a1))...)
	mayNot(t, call(full()), read(full(), full()))
}

// P1902: in a read each client's Seqs rise, be there others between, and gaps.
func TestReadOrder(t *testing.T) {
	far, last := data(1, 1<<40), data(1, math.MaxInt)
	all := entries(a1, a2, a3, b1, b2, far, last)
	for _, l := range [][]api.Entry{{a1, a2, a3}, {a1, a3}, {a3}, {a2, b1, a3, b2}, {b2, a1}, {b1, b2, a1, a2, a3}, {a1, b1, a2, b2, a3, far, last}, {a3, far}, {last}, {last, b1}} {
		may(t, calls(all, read(l...), read(l...))...)
	}
	for _, l := range [][]api.Entry{{a2, a1}, {a3, a1}, {a1, a3, a2}, {a2, a3, a1}, {a3, b1, a1}, {a2, b1, b2, a1}, {b2, a1, a2, b1}, {a1, b2, a3, b1}, {far, a1}, {last, far}, {last, a3}, {a1, last, a2}} {
		mayNot(t, calls(all, read(l...))...)
		mayNot(t, calls(all, read(), read(l...))...)
	}
}

// P1902: the order of Seqs is asked within each read alone: what is called, or answered, or read ahead has no part in it.
func TestReadOrderOfOneRead(t *testing.T) {
	may(t, calls(entries(a3, a2, a1), read(a1), read(a1, a2), read(a1), read(a1, a2, a3))...)
	may(t, calls(entries(a3, a2, a1), done(a3, 3), read(a1), read(a1, a2))...)
	may(t, calls(entries(a2, a1), done(a1, 9), read(a2))...)
}

// P1902: each client has Seqs of its own, however many there are.
func TestReadClients(t *testing.T) {
	var all []api.Entry
	for seq := range 5 {
		for client := range 20 {
			all = append(all, data(20-client, 1+seq))
		}
	}
	may(t, calls(all, read(all...))...)
	for i := 20; i < len(all); i++ {
		l := slices.Clone(all)
		l[i] = data(all[i].Client, 1)
		mayNot(t, calls(all, read(l...))...)
	}
}

// P1902: what an event's promise does not name is not looked at: it makes none wrong, and none right.
func TestNothingElse(t *testing.T) {
	noise := api.Event{Client: -7, Seq: 1 << 50, Index: -9, Entry: api.Entry{Kind: -1, Client: 1, Seq: 1, Data: "noise"}, Entries: entries(a3, a1, a1, api.Entry{})}
	noisy := func(e api.Event) api.Event {
		switch e.Kind {
		case api.TCall:
			e.Index, e.Entries = noise.Index, noise.Entries
		case api.TDone:
			e.Entry, e.Entries = noise.Entry, noise.Entries
		case api.TRead:
			e.Client, e.Seq, e.Entry = noise.Client, noise.Seq, noise.Entry
		}
		return e
	}
	var all []api.Event
	for _, e := range calls(entries(a1, a2, b1), done(b1, 2), read(), read(a1, b1), done(a2, 3), read(a1, b1, a2)) {
		all = append(all, noisy(e))
	}
	may(t, all...)
	for _, e := range trace(done(a3, 4), done(a1, 2), done(a2, 4), read(b1), read(a1, b1, a3), call(data(0, 1))) {
		mayNot(t, append(slices.Clone(all), noisy(e))...)
	}
	of := read(b1)
	of.Client, of.Seq, of.Entry = b1.Client, b1.Seq, b1
	mayNot(t, call(a1), of)
	answer := done(a2, 1)
	answer.Entry, answer.Entries = a2, entries(a2)
	mayNot(t, call(a1), answer)
}

// P1902: entries are asked nothing but what is named: other fields, members that there are none of and texts of any length may be.
func TestAnyEntry(t *testing.T) {
	odd := entries(
		api.Entry{Kind: api.KData, Client: 1, Seq: 1, Data: string(make([]byte, 1000)), Members: make([]int, 1000), To: -5},
		api.Entry{Kind: api.KConf, Client: 100, Seq: 1},
		api.Entry{Kind: api.KConf, Client: 100, Seq: 2, Members: list(9, 9, -1, math.MaxInt), To: math.MinInt},
		api.Entry{Kind: api.KMigrate, Client: math.MaxInt, Seq: 9, To: 77},
	)
	may(t, calls(odd, read(odd...), done(odd[3], 4), read(odd[:2]...))...)
}

// P1902: of several events that may not be the first one is told.
func TestFirst(t *testing.T) {
	bad := trace(api.Event{}, call(data(0, 1)), done(b2, 1), done(a1, 0), read(b2), read(a1, a1))
	good := trace(call(a1), read(), done(a1, 1), call(a2), read(a1, a2), read(a1))
	for at := range len(good) + 1 {
		for _, first := range bad {
			for _, second := range bad {
				l := append(slices.Clone(good[:at]), first)
				check(t, at, l)
				check(t, at, append(l, second))
				check(t, at, append(append(l, good[at:]...), second))
			}
		}
	}
}

// P1902: a trace that is long, and whose requests are many.
func TestLong(t *testing.T) {
	var all []api.Entry
	for i := range 100000 {
		all = append(all, data(1+i%1000, 1+i/1000))
	}
	l := calls(all, read(all...), read(all[:50000]...))
	for i, e := range all {
		l = append(l, done(e, i+1))
	}
	check(t, -1, l)
	check(t, len(l), append(l, done(all[99999], 99999)))
	check(t, len(l), append(l, done(all[0], 100001)))
}

// The chapter's example.
func TestExample(t *testing.T) {
	check(t, 0, trace(done(a1, 1)))
}
