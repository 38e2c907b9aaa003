package wire

import "synodal/api"

// reader takes things from the beginning of b on. It keeps its first flaw; behind it, all that is read is zero.
type reader struct {
	b   []byte
	at  int
	err error
}

// The fields of a literal are read in the order in which they stand there: that of the bytes.

func (r *reader) entry() api.Entry {
	return api.Entry{
		Kind:    r.ruled(entryKind),
		Client:  r.integer(),
		Seq:     r.integer(),
		Data:    r.text(),
		Members: r.list(nodeCount),
		To:      r.ruled(engine),
	}
}

func (r *reader) config() api.Config {
	return api.Config{Old: r.list(nodeCount), New: r.list(nodeCount)}
}

func (r *reader) msg() api.Msg {
	return api.Msg{
		From:    r.integer(),
		To:      r.integer(),
		Gen:     r.integer(),
		Kind:    r.ruled(msgKind),
		Term:    r.integer(),
		Index:   r.integer(),
		Last:    r.integer(),
		Commit:  r.integer(),
		Yes:     r.ruled(yesNo) == 1,
		Terms:   r.list(listCount),
		Entries: r.entries(),
		Config:  r.config(),
	}
}

// end refuses what is left behind the thing that was read.
func (r *reader) end() {
	if r.at < len(r.b) {
		r.fail(r.at, api.ErrMore)
	}
}

func (r *reader) fail(at int, e api.Errno) {
	if r.err == nil {
		r.err = &flaw{at: at, inner: e}
	}
}

// take answers the next n bytes, a piece of b; none, if there are not so many.
func (r *reader) take(n int) []byte {
	if len(r.b)-r.at < n {
		r.fail(len(r.b), api.ErrCut)
	}
	if r.err != nil {
		return nil
	}
	r.at += n
	return r.b[r.at-n : r.at]
}

func (r *reader) ruled(p part) int {
	n := int(joined(r.take(1)))
	if e := p.refusal(n); e != api.OK {
		r.fail(r.at-1, e)
		return 0
	}
	return n
}

func (r *reader) integer() int { return int(joined(r.take(intBytes))) }

func (r *reader) text() string { return string(r.take(r.ruled(textLength))) }

func (r *reader) list(p part) []int {
	var l []int
	for range r.ruled(p) {
		l = append(l, r.integer())
	}
	return l
}

func (r *reader) entries() []api.Entry {
	var l []api.Entry
	for range r.ruled(listCount) {
		l = append(l, r.entry())
	}
	return l
}

// joined is the number that bytes make, the highest first; 0 of none.
func joined(b []byte) uint64 {
	var n uint64
	for _, x := range b {
		n = n<<8 | uint64(x)
	}
	return n
}
