package paxos

import (
	"slices"

	"synodal/accept"
	"synodal/api"
	"synodal/core"
)

// lasting is what a core must not forget. A core votes only right behind what it knows to be committed: so whoever hears of a vote hears of all ahead of it, too, and at most one vote is open.
type lasting struct {
	members  []int
	base     int
	acceptor *accept.Acceptor  // what it has promised and voted for; its slots are indexes
	chosen   map[int]api.Entry // what is committed, by indexes behind base, without a gap
}

func fresh(members []int, base int) *lasting {
	return &lasting{members: slices.Clone(members), base: base, acceptor: accept.New(), chosen: map[int]api.Entry{}}
}

// term is the greatest ballot that was heard of: each one that is heard of is promised.
func (l *lasting) term() int { return l.acceptor.Promised() }

func (l *lasting) commit() int { return l.base + len(l.chosen) }

// stopped asks the last entry that is committed: behind a stop none ever is.
func (l *lasting) stopped() bool { return isStop(l.chosen[l.commit()]) }

func isStop(e api.Entry) bool { return e.Kind == api.KConf || e.Kind == api.KMigrate }

// fits says whether an entry may be the next one at an index: right behind what is committed, but not behind a stop, and such as may be proposed.
func (l *lasting) fits(index int, e api.Entry) bool {
	return index == l.commit()+1 && index <= core.Room && !l.stopped() && core.Unfit(e) == nil && !l.isVain(e)
}

// isVain says whether an entry would change the members to those that there are.
func (l *lasting) isVain(e api.Entry) bool {
	return e.Kind == api.KConf && slices.Equal(e.Members, l.members)
}

// open tells the vote for what comes next, if there is one.
func (l *lasting) open() (accept.Vote, bool) {
	for _, v := range l.acceptor.Votes() {
		if v.Slot == l.commit()+1 {
			return v, true
		}
	}
	return accept.Vote{}, false
}

// learn takes what a report tells as committed, as far as it is next to what is known.
func (l *lasting) learn(m api.Msg) {
	for i, e := range m.Entries {
		index := m.Index + 1 + i
		if index <= m.Commit && l.fits(index, e) {
			l.chosen[index] = core.Twin(e)
		}
	}
}

// vote votes, if that may be voted for, and no greater ballot is promised.
func (l *lasting) vote(v accept.Vote) {
	if l.fits(v.Slot, v.Entry) {
		l.acceptor.Accept(v.Ballot, v.Slot, v.Entry)
	}
}

func (l *lasting) bytes() []byte {
	m := l.report(l.base)
	m.Config.New = l.members
	return core.Pack(m)
}

// restored takes what may be taken of the message as which a core was saved. Its ballot is promised last: no vote is of a greater one.
func restored(m api.Msg) (*lasting, api.Errno) {
	if m.Term < 1 && len(m.Entries) > 0 {
		return nil, api.ErrArg
	}
	l := fresh(m.Config.New, m.Index)
	l.learn(m)
	if v, ok := voteOf(m); ok {
		l.vote(v)
	}
	l.pledge(m.Term)
	return l, api.OK
}

// pledge promises a ballot, unless a greater one is.
func (l *lasting) pledge(ballot int) { l.acceptor.Prepare(ballot, l.commit()+1) }
