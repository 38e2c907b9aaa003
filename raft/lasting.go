package raft

import (
	"bytes"
	"slices"

	"synodal/api"
	"synodal/conf"
	"synodal/hist"
	"synodal/wire"
)

// nobody is whom a core voted for that has not voted.
const nobody = -1

// savedKind is the kind of the message as which a core is saved; none of that kind is sent.
const savedKind = 15

// lasting is what a core must not forget. How much is committed others would tell it again; but what was told by it is told for good, a seal above all.
type lasting struct {
	members []int // that it began with
	base    int
	term    int
	voted   int // for whom, in that term
	commit  int
	log     *hist.Hist
}

// bytes lays all of it into one message, and that into a frame, by whose sum other bytes are told.
func (l *lasting) bytes() []byte {
	terms, list := l.log.From(l.base)
	b, _ := wire.EncodeMsg(api.Msg{
		Kind:    savedKind,
		Term:    l.term,
		Index:   l.base,
		Last:    l.voted,
		Commit:  l.commit,
		Terms:   terms,
		Entries: list,
		Config:  api.Config{New: l.members},
	})
	f, _ := wire.Frame(b)
	return f
}

// parse tells what was saved as these bytes.
func parse(b []byte) (lasting, error) {
	frames, _, e := wire.Split(b)
	if e != api.OK {
		return lasting{}, &flaw{inner: e}
	}
	if len(frames) != 1 {
		return lasting{}, &flaw{inner: api.ErrCut}
	}
	m, e := wire.ParseMsg(frames[0])
	if e != api.OK {
		return lasting{}, &flaw{inner: e}
	}
	l, e := restored(m)
	if e != api.OK {
		return lasting{}, &flaw{inner: e}
	}
	// Whatever else may be there, in the message or behind the frame, a core would not have saved it.
	if !bytes.Equal(l.bytes(), b) {
		return lasting{}, &flaw{inner: api.ErrMore}
	}
	return l, nil
}

// restored takes from a message what was saved as it, if a core may have saved that.
func restored(m api.Msg) (lasting, api.Errno) {
	l := lasting{members: m.Config.New, base: m.Index, term: m.Term, voted: m.Last, commit: m.Commit}
	if l.base < 0 || l.base > api.MaxLog || l.voted != nobody && !isNode(l.voted) {
		return lasting{}, api.ErrArg
	}
	if e := conf.Check(api.Config{New: l.members}); e != api.OK {
		return lasting{}, e
	}
	l.log = hist.New(l.base)
	last, e := l.log.Put(l.base, 0, m.Terms, m.Entries)
	if e != api.OK {
		return lasting{}, e
	}
	if l.commit < l.base || l.commit > last || l.term < l.log.Term(last) {
		return lasting{}, api.ErrArg
	}
	return l, api.OK
}

// configAt tells the configuration that counts at an index. A log tells what counts behind its end, so what stands up to there is laid into one of its own.
func (l *lasting) configAt(i int) api.Config {
	terms, list := l.log.From(l.base)
	count := min(max(0, i-l.base), len(list))
	front := hist.New(l.base)
	front.Put(l.base, 0, terms[:count], list[:count])
	return front.Config(api.Config{New: l.members})
}

// counts says whether a core is a member of a configuration that counts from what is committed on.
func (l *lasting) counts(id int) bool {
	for i := l.commit; i <= l.log.Last(); i++ {
		if conf.In(l.configAt(i), id) {
			return true
		}
	}
	return false
}

// find tells where behind an index the first entry of one of these kinds stands; 0, if there is none.
func (l *lasting) find(behind int, kinds ...int) int {
	for i := behind + 1; i <= l.log.Last(); i++ {
		if e, _ := l.log.Entry(i); slices.Contains(kinds, e.Kind) {
			return i
		}
	}
	return 0
}
