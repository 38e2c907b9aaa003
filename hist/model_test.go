package hist

import (
	"math"
	"reflect"
	"slices"
	"testing"

	"synodal/api"
	"synodal/conf"
)

// slot is what stands at an index.
type slot struct {
	term  int
	entry api.Entry
}

// model is what the document says of a log, word by word, by a map of what stands at each index.
type model struct {
	base, last int
	at         map[int]slot
}

func newModel(base int) *model { return &model{base: base, last: base, at: map[int]slot{}} }

func (m *model) append(term int, l ...api.Entry) (int, api.Errno) {
	switch {
	case term < 1, term < m.at[m.last].term:
		return 0, api.ErrArg
	case m.last > 64-len(l):
		return 0, api.ErrFull
	}
	for _, e := range l {
		m.last++
		m.at[m.last] = slot{term, e}
	}
	return m.last, api.OK
}

func (m *model) refuses(index, term int, terms []int, l []api.Entry) api.Errno {
	if len(terms) != len(l) || index < m.base {
		return api.ErrArg
	}
	for i, x := range terms {
		if x < 1 || i == 0 && x < term || i > 0 && x < terms[i-1] {
			return api.ErrArg
		}
	}
	if index > m.last {
		return api.ErrNone
	}
	if index > m.base && m.at[index].term != term {
		return api.ErrNone
	}
	if index > 64-len(l) {
		return api.ErrFull
	}
	return api.OK
}

func (m *model) put(index, term int, terms []int, l []api.Entry) (int, api.Errno) {
	if e := m.refuses(index, term, terms, l); e != api.OK {
		return 0, e
	}
	for i, e := range l {
		place := index + i + 1
		is, ok := m.at[place]
		if ok && is.term == terms[i] {
			continue
		}
		for gone := place; gone <= m.last; gone++ {
			delete(m.at, gone)
		}
		m.at[place], m.last = slot{terms[i], e}, place
	}
	return index + len(l), api.OK
}

func (m *model) newer(last, term int) bool {
	mine := m.at[m.last].term
	if term != mine {
		return term > mine
	}
	return last >= m.last
}

func (m *model) config(c api.Config) api.Config {
	for k := range m.last - m.base {
		e := m.at[m.base+1+k].entry
		joint := len(c.Old) > 0
		switch {
		case e.Kind == api.KConf && !joint && conf.Check(api.Config{New: e.Members}) == api.OK && !slices.Equal(e.Members, c.New):
			c = api.Config{Old: c.New, New: e.Members}
		case e.Kind == api.KDone && joint:
			c = api.Config{New: c.New}
		}
	}
	return c
}

// from is the model's own list from an index on.
func (m *model) from(i int) ([]int, []api.Entry) {
	var terms []int
	var l []api.Entry
	for k := range m.last - m.base {
		at := m.base + 1 + k
		if at >= i {
			terms = append(terms, m.at[at].term)
			l = append(l, m.at[at].entry)
		}
	}
	return terms, l
}

// same says whether two entries are the same; of lists nil and empty are.
func same(a, b api.Entry) bool {
	if !slices.Equal(a.Members, b.Members) {
		return false
	}
	a.Members, b.Members = nil, nil
	return reflect.DeepEqual(a, b)
}

// check holds all that a log tells of its entries against the model, at each index from ahead of base to behind the last one, and at the ends of int.
func (m *model) check(t *testing.T, what string, h *Hist) {
	t.Helper()
	if h.Last() != m.last {
		t.Fatalf("%s: Last: %d, not %d", what, h.Last(), m.last)
	}
	places := []int{math.MinInt, math.MinInt + 1, -1, 0, 1, math.MaxInt - 1, math.MaxInt}
	for i := m.base - 2; i <= m.last+2; i++ {
		places = append(places, i)
	}
	for _, i := range places {
		want, ok := m.at[i]
		if got := h.Term(i); got != want.term {
			t.Fatalf("%s: Term(%d): %d, not %d", what, i, got, want.term)
		}
		if got, is := h.Entry(i); is != ok || !same(got, want.entry) {
			t.Fatalf("%s: Entry(%d): %+v, %v, not %+v, %v", what, i, got, is, want.entry, ok)
		}
		terms, l := h.From(i)
		wantTerms, wantList := m.from(i)
		if !slices.Equal(terms, wantTerms) || !slices.EqualFunc(l, wantList, same) {
			t.Fatalf("%s: From(%d): %v, %+v, not %v, %+v", what, i, terms, l, wantTerms, wantList)
		}
	}
}

// checkWhole holds a log against its base, and the terms and letters that stand behind it.
func checkWhole(t *testing.T, what string, h *Hist, base int, terms []int, letters string) {
	t.Helper()
	m := newModel(base)
	for i, e := range data(letters) {
		m.last++
		m.at[m.last] = slot{terms[i], e}
	}
	m.check(t, what, h)
}

// data are entries of data, one a letter; each has the letter's number in its other fields, too.
func data(letters string) []api.Entry {
	var out []api.Entry
	for _, c := range letters {
		n := int(c)
		out = append(out, api.Entry{Kind: api.KData, Client: n, Seq: n, Data: string(c), Members: []int{n}, To: n})
	}
	return out
}

func list(numbers ...int) []int { return numbers }

// logOf is a log behind base with a letter of each term, appended one by one.
func logOf(t *testing.T, base int, terms []int, letters string) *Hist {
	t.Helper()
	h := New(base)
	for i, e := range data(letters) {
		if n, errno := h.Append(terms[i], e); n != base+i+1 || errno != api.OK {
			t.Fatalf("Append(%d, %s): %d, %v", terms[i], e.Data, n, errno)
		}
	}
	return h
}

func checkAppend(t *testing.T, h *Hist, term int, l []api.Entry, want int, wantErrno api.Errno) {
	t.Helper()
	if n, e := h.Append(term, l...); n != want || e != wantErrno {
		t.Errorf("Append(%d, %d of them): %d, %v, not %d, %v", term, len(l), n, e, want, wantErrno)
	}
}

func checkPut(t *testing.T, h *Hist, index, term int, terms []int, l []api.Entry, want int, wantErrno api.Errno) {
	t.Helper()
	if n, e := h.Put(index, term, terms, l); n != want || e != wantErrno {
		t.Errorf("Put(%d, %d, %v, %d of them): %d, %v, not %d, %v", index, term, terms, len(l), n, e, want, wantErrno)
	}
}
