package raft

import (
	"slices"

	"synodal/api"
	"synodal/conf"
	"synodal/core"
	"synodal/hist"
)

// nobody is whom a core voted for that has not voted.
const nobody = -1

// lasting is what a core must not forget. How much is committed others would tell it again; but what was told by it is told for good, a seal above all.
type lasting struct {
	members []int // that it began with
	base    int
	term    int
	voted   int // for whom, in that term
	commit  int
	log     *hist.Hist
}

// bytes lays all of it into one message.
func (l *lasting) bytes() []byte {
	terms, list := l.log.From(l.base)
	return core.Pack(api.Msg{
		Term:    l.term,
		Index:   l.base,
		Last:    l.voted,
		Commit:  l.commit,
		Terms:   terms,
		Entries: list,
		Config:  api.Config{New: l.members},
	})
}

// restored takes from a message what was saved as it, if a core may have saved that.
func restored(m api.Msg) (*lasting, api.Errno) {
	l := &lasting{members: m.Config.New, base: m.Index, term: m.Term, voted: m.Last, commit: m.Commit, log: hist.New(m.Index)}
	last, e := l.log.Put(l.base, 0, m.Terms, m.Entries)
	if e != api.OK {
		return nil, e
	}
	if l.voted != nobody && !core.IsNode(l.voted) || l.commit < l.base || l.commit > last || l.term < l.log.Term(last) {
		return nil, api.ErrArg
	}
	return l, api.OK
}

// configAt tells the configuration that counts at an index. A log tells what counts behind its end, so what stands up to there is laid into one of its own.
func (l *lasting) configAt(i int) api.Config {
	terms, list := l.log.From(l.base)
	count := min(max(0, i-l.base), len(list))
	front := hist.New(l.base)
	front.Put(l.base, 0, terms[:count], list[:count])
	return front.Config(api.Config{New: l.members})
}

// counts says whether a core is a member of a configuration that counts from what is committed on.
func (l *lasting) counts(id int) bool {
	for i := l.commit; i <= l.log.Last(); i++ {
		if conf.In(l.configAt(i), id) {
			return true
		}
	}
	return false
}

// find tells where behind an index the first entry of one of these kinds stands; 0, if there is none.
func (l *lasting) find(behind int, kinds ...int) int {
	for i := behind + 1; i <= l.log.Last(); i++ {
		if e, _ := l.log.Entry(i); slices.Contains(kinds, e.Kind) {
			return i
		}
	}
	return 0
}
