package spec

import (
	"slices"
	"sync"
	"testing"

	"synodal/api"
)

// spare stands in the spare room of all that is handed in.
const spare = 4711

// odd is an entry for spare room.
var odd = api.Entry{Kind: spare, Client: spare, Seq: spare, Data: "spare", To: spare}

// roomyEntries are the same entries, with something in the spare room of the list and of each one's members.
func roomyEntries(l []api.Entry) []api.Entry {
	out := append(slices.Clone(l), odd, odd)
	for i, e := range out {
		n := len(e.Members)
		out[i].Members = append(slices.Clone(e.Members), spare, spare)[:n]
	}
	return out[:len(l)]
}

// roomy are the same events, with something in the spare room of all their lists.
func roomy(l []api.Event) []api.Event {
	out := append(slices.Clone(l), api.Event{Kind: spare, Entries: entries(odd)}, api.Event{Kind: spare, Index: spare})
	for i, e := range out {
		out[i].Entry = roomyEntries(entries(e.Entry))[0]
		out[i].Entries = roomyEntries(e.Entries)
	}
	return out[:len(l)]
}

// whole is a list with its spare room.
func whole[E any](l []E) []E { return l[:cap(l)] }

// deep is all that a list of entries says, its spare room and that of each one's members too.
func deep(l []api.Entry) []api.Entry {
	out := slices.Clone(whole(l))
	for i, e := range out {
		out[i].Members = slices.Clone(whole(e.Members))
	}
	return out
}

// deepEvents is all that a list of events says, the spare room of all its lists too.
func deepEvents(l []api.Event) []api.Event {
	out := slices.Clone(whole(l))
	for i, e := range out {
		out[i].Entry = deep(entries(e.Entry))[0]
		out[i].Entries = deep(e.Entries)
	}
	return out
}

func sameEvent(a, b api.Event) bool {
	return a.Kind == b.Kind && a.Client == b.Client && a.Seq == b.Seq && a.Index == b.Index && same(a.Entry, b.Entry) && slices.EqualFunc(a.Entries, b.Entries, same)
}

// scrawl writes over all that events are, and the spare room of all their lists.
func scrawl(l []api.Event) {
	for i, e := range whole(l) {
		scrawlEntries(e.Entries)
		scrawlEntries(entries(e.Entry))
		whole(l)[i] = api.Event{Kind: -33, Index: -33}
	}
}

func scrawlEntries(l []api.Entry) {
	for i, e := range whole(l) {
		for j := range whole(e.Members) {
			whole(e.Members)[j] = -33
		}
		whole(l)[i] = api.Entry{Kind: -33, Client: -33, Seq: -33, Data: "scrawl", To: -33}
	}
}

// traces are such of which all events may be, and such of which not; with members, and without.
func traces() [][]api.Event {
	conf := full()
	other := full()
	other.Members = list(0, 1, 3)
	return [][]api.Event{
		trace(),
		calls(entries(a1, conf, b1), read(a1, conf), done(conf, 2), call(conf), read(), read(a1, conf, b1), done(b1, 3)),
		calls(entries(a1, conf), read(a1, conf), call(other)),
		calls(entries(a1, conf), read(a1, other), read(a1)),
		calls(entries(a2, a1), done(a2, 2), read(a1), done(a1, 2)),
		trace(api.Event{Kind: -1, Entry: conf, Entries: entries(conf, other)}),
	}
}

// P2: what Check is handed, with all its spare room, is not changed.
func TestCheckChangesNothing(t *testing.T) {
	for i, l := range traces() {
		handed := roomy(l)
		was := deepEvents(handed)
		if a, b := Check(l), Check(handed); a != b {
			t.Errorf("P2: trace %d: %d, and with spare room %d", i, a, b)
		}
		if !slices.EqualFunc(deepEvents(handed), was, sameEvent) {
			t.Errorf("P2: trace %d is now %+v, not %+v", i, deepEvents(handed), was)
		}
	}
}

// P2: what Fits is handed, with all its spare room, is not changed.
func TestFitsChangesNothing(t *testing.T) {
	for _, n := range list(0, 1, 2, 3) {
		l := entries(full(), a1, full())
		a, b := roomyEntries(l), roomyEntries(l[:n])
		wasA, wasB := deep(a), deep(b)
		fits(t, a, b, true)
		if !slices.EqualFunc(deep(a), wasA, same) || !slices.EqualFunc(deep(b), wasB, same) {
			t.Errorf("P2: %+v and %+v, not %+v and %+v", deep(a), deep(b), wasA, wasB)
		}
	}
}

// P2, P3: nothing that was handed in is kept, and nothing that it said: a trace is answered as if there had been no other one.
func TestNothingIsKept(t *testing.T) {
	var want []int
	for _, l := range traces() {
		want = append(want, Check(l))
	}
	if !slices.Equal(want, list(-1, -1, 3, 2, 4, 0)) {
		t.Fatalf("P1902: %v", want)
	}
	for range 3 {
		for i := range traces() {
			for j, l := range traces() {
				ahead := roomy(traces()[i])
				Check(ahead)
				scrawl(ahead)
				if got := Check(l); got != want[j] {
					t.Errorf("P3: trace %d behind trace %d: %d, not %d", j, i, got, want[j])
				}
			}
		}
	}
}

// P2: lists that are handed in may share memory, of one trace, and both lists of Fits.
func TestHandedInShared(t *testing.T) {
	ids := list(0, 1, 2, 3)
	var all []api.Entry
	for i := range 4 {
		all = append(all, api.Entry{Kind: api.KConf, Client: 1, Seq: i + 1, Members: ids[:i+1]})
	}
	may(t, calls(all, read(all[:2]...), read(all...), read(all[:3]...))...)
	mayNot(t, calls(all, read(all[:2]...), read(all[1:]...))...)
	fits(t, all, all[:2], true)
	fits(t, all, all[1:], false)
}

// P3: the same traces beside one another answer the same.
func TestBeside(t *testing.T) {
	shared := traces()
	answers := make([][]int, 8)
	var group sync.WaitGroup
	for i := range answers {
		group.Go(func() {
			for range 50 {
				for _, l := range shared {
					answers[i] = append(answers[i], Check(l))
				}
				if !Fits(shared[1][3].Entries, shared[1][8].Entries) {
					answers[i] = append(answers[i], 99)
				}
			}
		})
	}
	group.Wait()
	for i, l := range answers {
		if !slices.Equal(l, slices.Repeat(list(-1, -1, 3, 2, 4, 0), 50)) {
			t.Errorf("P3: beside others: %d: %v", i, l)
		}
	}
}
