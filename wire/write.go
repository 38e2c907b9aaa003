package wire

import "synodal/api"

// intBytes is how many bytes an int has.
const intBytes = 8

// writer lays things one behind the other. It keeps its first flaw: that is the one that the order of the bytes asks for.
type writer struct {
	b   []byte
	err error
}

func (w *writer) entry(e api.Entry) {
	w.ruled(entryKind, e.Kind)
	w.ints(e.Client, e.Seq)
	w.text(e.Data)
	w.list(nodeCount, e.Members)
	w.ruled(engine, e.To)
}

func (w *writer) config(c api.Config) {
	w.list(nodeCount, c.Old)
	w.list(nodeCount, c.New)
}

func (w *writer) msg(m api.Msg) {
	w.ints(m.From, m.To, m.Gen)
	w.ruled(msgKind, m.Kind)
	w.ints(m.Term, m.Index, m.Last, m.Commit)
	w.ruled(yesNo, bit(m.Yes))
	w.list(listCount, m.Terms)
	w.entries(m.Entries)
	w.config(m.Config)
}

// ruled lays a byte that has a rule, and tells whether what it announces may follow: a list that is refused may be longer than anybody wants to go through.
func (w *writer) ruled(p part, n int) bool {
	if w.err != nil {
		return false
	}
	if e := p.refusal(n); e != api.OK {
		w.err = &flaw{at: len(w.b), inner: e}
		return false
	}
	w.b = append(w.b, byte(n))
	return true
}

func (w *writer) ints(l ...int) {
	for _, n := range l {
		w.b = appendNumber(w.b, intBytes, uint64(n))
	}
}

func (w *writer) text(s string) {
	if w.ruled(textLength, len(s)) {
		w.b = append(w.b, s...)
	}
}

func (w *writer) list(p part, l []int) {
	if w.ruled(p, len(l)) {
		w.ints(l...)
	}
}

func (w *writer) entries(l []api.Entry) {
	if !w.ruled(listCount, len(l)) {
		return
	}
	for _, e := range l {
		w.entry(e)
	}
}

// appendNumber lays a number of 8, 4 or 1 bytes behind b, the highest first: a narrow one is the end of a wide one.
func appendNumber(b []byte, width int, n uint64) []byte {
	switch width {
	case 8:
		b = append(b, byte(n>>56), byte(n>>48), byte(n>>40), byte(n>>32))
		fallthrough
	case 4:
		b = append(b, byte(n>>24), byte(n>>16), byte(n>>8))
		fallthrough
	default:
		b = append(b, byte(n))
	}
	return b
}

func bit(yes bool) int {
	if yes {
		return 1
	}
	return 0
}
