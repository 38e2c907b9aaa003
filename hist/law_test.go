package hist

import (
	"math"
	"slices"
	"strconv"
	"testing"

	"synodal/api"
	"synodal/conf"
)

// picks is a row of numbers that hang on a first one.
type picks uint32

func (x *picks) next(count int) int {
	*x = *x*1664525 + 1013904223
	return int(*x>>8) % count
}

// checkRises says that terms do not fall along a log.
func checkRises(t *testing.T, h *Hist) {
	t.Helper()
	terms, _ := h.From(0)
	if !slices.IsSorted(terms) || len(terms) > 0 && terms[0] < 1 {
		t.Fatalf("P1005: terms %v", terms)
	}
}

// rows are all rows of up to so many numbers out of 0 to count - 1.
func rows(length, count int) [][]int {
	out, longest := [][]int{nil}, [][]int{nil}
	for range length {
		var longer [][]int
		for _, row := range longest {
			for n := range count {
				longer = append(longer, append(slices.Clone(row), n))
			}
		}
		longest = longer
		out = append(out, longest...)
	}
	return out
}

// P1003, P1005: every Put of up to three terms of 0 to 3, at every index about the log, of each term, into every log of up to three such entries, against the model.
func TestEveryPut(t *testing.T) {
	all := rows(3, 4)
	for _, stand := range all {
		if !slices.IsSorted(stand) || slices.Contains(stand, 0) {
			continue
		}
		for _, terms := range all {
			for index := range 6 {
				for term := range 5 {
					h, m := New(1), newModel(1)
					for i, e := range data("abc"[:len(stand)]) {
						h.Append(stand[i], e)
						m.append(stand[i], e)
					}
					l := data("xyz"[:len(terms)])
					want, wantErrno := m.put(index, term-1, terms, l)
					checkPut(t, h, index, term-1, terms, l, want, wantErrno)
					checkSame(t, m, h)
				}
			}
		}
	}
}

// checkSame holds a log against the model, more quickly than check.
func checkSame(t *testing.T, m *model, h *Hist) {
	t.Helper()
	terms, l := h.From(m.base)
	wantTerms, want := m.from(m.base)
	if h.Last() != m.last || !slices.Equal(terms, wantTerms) || !slices.EqualFunc(l, want, same) {
		t.Fatalf("%v, %+v up to %d, not %v, %+v up to %d", terms, l, h.Last(), wantTerms, want, m.last)
	}
	checkRises(t, h)
}

// drawnEntry is one of any kind; many change members.
func drawnEntry(x *picks) api.Entry {
	e := api.Entry{Kind: x.next(6), Client: x.next(3), Seq: x.next(1000), Data: strconv.Itoa(x.next(1000)), To: x.next(3)}
	for id := range 5 {
		if x.next(3) == 0 {
			e.Members = append(e.Members, id)
		}
	}
	if x.next(6) == 0 {
		e.Members = append(e.Members, x.next(12)-1)
	}
	return e
}

// drawnPut is arguments of a Put that mostly may be, at some index of a log.
func drawnPut(x *picks, m *model) (index, term int, terms []int, l []api.Entry) {
	index = m.base + x.next(m.last-m.base+1)
	term = m.at[index].term
	for i, next := 0, max(1, term); i < x.next(8); i++ {
		if is, ok := m.at[index+i+1]; ok && x.next(6) != 0 {
			next = max(next, is.term)
		}
		next += max(0, x.next(12)-10)
		terms, l = append(terms, next), append(l, drawnEntry(x))
	}
	switch x.next(14) {
	case 0:
		index += x.next(7) - 3
	case 1:
		term += x.next(5) - 2
	case 2:
		l = append(l, drawnEntry(x))
	case 3:
		if len(terms) > 0 {
			terms[x.next(len(terms))] += x.next(7) - 3
		}
	case 4:
		index = []int{math.MinInt, math.MaxInt, -1, 65}[x.next(4)]
	}
	return index, term, terms, l
}

// P1001 to P1005, P3: long rows of drawn calls on two logs, against the model; both answer the same.
func TestLongRows(t *testing.T) {
	for seed := range 120 {
		x := picks(seed)
		base := x.next(70)
		h, twin, m := New(base), New(base), newModel(base)
		for range 120 {
			var want, got, again int
			var wantErrno, errno, errnoAgain api.Errno
			if x.next(3) == 0 {
				term, l := m.at[m.last].term+x.next(4)-1, []api.Entry(nil)
				for range x.next(6) {
					l = append(l, drawnEntry(&x))
				}
				want, wantErrno = m.append(term, l...)
				got, errno = h.Append(term, l...)
				again, errnoAgain = twin.Append(term, l...)
			} else {
				index, term, terms, l := drawnPut(&x, m)
				want, wantErrno = m.put(index, term, terms, l)
				got, errno = h.Put(index, term, terms, l)
				again, errnoAgain = twin.Put(index, term, terms, l)
			}
			if got != want || errno != wantErrno || again != want || errnoAgain != wantErrno {
				t.Fatalf("%d, %v and %d, %v, not %d, %v", got, errno, again, errnoAgain, want, wantErrno)
			}
			checkSame(t, m, h)
			checkAsked(t, &x, m, h)
		}
		m.check(t, "at last", h)
		m.check(t, "its twin", twin)
	}
}

// checkAsked holds what Newer and Config tell against the model.
func checkAsked(t *testing.T, x *picks, m *model, h *Hist) {
	t.Helper()
	last, term := m.last+x.next(5)-2, m.at[m.last].term+x.next(3)-1
	if h.Newer(last, term) != m.newer(last, term) {
		t.Fatalf("Newer(%d, %d): %v", last, term, h.Newer(last, term))
	}
	for _, c := range []api.Config{plain(0, 1, 2), plain(x.next(5))} {
		if got, want := h.Config(c), m.config(c); !conf.Same(got, want) {
			t.Fatalf("Config(%v): %v, not %v", c, got, want)
		}
	}
}

// sent is a part of a leader's log, under way to others.
type sent struct {
	index, term int
	terms       []int
	l           []api.Entry
}

// group is some logs, of which some lead, each a term of its own, till it takes what another one sent.
type group struct {
	base  int
	logs  []*Hist
	leads []int // the term that each leads; 0: none
	term  int   // the last that began
	made  int   // how many entries were made; no two are the same
	way   []sent
}

func newGroup(base, count int) *group {
	g := &group{base: base, leads: make([]int, count)}
	for range count {
		g.logs = append(g.logs, New(base))
	}
	return g
}

// add lets a leader append some entries of its term.
func (g *group) add(x *picks, k int) {
	var l []api.Entry
	for range x.next(3) {
		g.made++
		l = append(l, api.Entry{Kind: api.KData, Client: 1, Seq: g.made})
	}
	g.logs[k].Append(g.leads[k], l...)
}

// send puts a part of a leader's log, from some index on, under way.
func (g *group) send(x *picks, k int) {
	h := g.logs[k]
	index := g.base + x.next(h.Last()-g.base+1)
	terms, l := h.From(index + 1)
	count := x.next(len(l) + 1)
	g.way = append(g.way, sent{index, h.Term(index), terms[:count], l[:count]})
}

// step lets one log begin to lead, append, send or take.
func (g *group) step(x *picks) {
	k := x.next(len(g.logs))
	switch way := x.next(8); {
	case way == 0:
		g.term += 1 + x.next(2)
		g.leads[k] = g.term
	case way < 3 && g.leads[k] > 0:
		g.add(x, k)
	case way < 5 && g.leads[k] > 0:
		g.send(x, k)
	case len(g.way) > 0:
		m := g.way[x.next(len(g.way))] // it stays under way: it may come late, and again
		if _, e := g.logs[k].Put(m.index, m.term, m.terms, m.l); e == api.OK {
			g.leads[k] = 0
		}
	}
}

// check says that of each two logs, where both have an entry of one term at an index, they are the same up to there; it counts such places.
func (g *group) check(t *testing.T) int {
	t.Helper()
	count := 0
	for i, a := range g.logs {
		checkRises(t, a)
		for _, b := range g.logs[:i] {
			for at := min(a.Last(), b.Last()); at > g.base; at-- {
				if a.Term(at) != b.Term(at) {
					continue
				}
				count += at - g.base
				checkFronts(t, g.base, at, a, b)
				break // up to there all is asked
			}
		}
	}
	return count
}

func checkFronts(t *testing.T, base, last int, a, b *Hist) {
	t.Helper()
	for i := base + 1; i <= last; i++ {
		x, _ := a.Entry(i)
		y, _ := b.Entry(i)
		if a.Term(i) != b.Term(i) || !same(x, y) {
			t.Fatalf("P1005: the same term at %d, but at %d %+v of %d and %+v of %d", last, i, x, a.Term(i), y, b.Term(i))
		}
	}
}

// P1005: logs of the same leaders' entries match, whatever comes late, again or to whom.
func TestLogsMatch(t *testing.T) {
	places, others := 0, 0
	for seed := range 300 {
		x := picks(seed)
		g := newGroup(x.next(40), 2+x.next(4))
		for range 250 {
			g.step(&x)
			places += g.check(t)
		}
		for _, h := range g.logs[1:] {
			if !sameTerms(h, g.logs[0]) {
				others++
			}
		}
	}
	if places == 0 || others == 0 {
		t.Errorf("nothing is asked: %d places, %d logs that are not the same", places, others)
	}
}

func sameTerms(a, b *Hist) bool {
	one, _ := a.From(0)
	other, _ := b.From(0)
	return slices.Equal(one, other)
}
