package paxos

import (
	"synodal/accept"
	"synodal/api"
	"synodal/core"
)

// The kinds of messages. One that wants an answer has the answer's kind right behind it. Each is a report of what its sender knows, behind what the other one does; Term: the greatest ballot that the sender has heard of.
const (
	ask     = 1 + iota // for the promise of that ballot, by the one whose it is
	promise            // the answer: the open vote counts
	offer              // of one that leads: the open vote is what it proposes
	taken              // the answer: up to where it has come
)

// report tells what is committed behind an index, up to Commit, and the open vote: one more of the Entries, its ballot in Terms. To one that knows of more it has nothing to tell.
func (l *lasting) report(behind int) api.Msg {
	behind = max(behind, l.base)
	m := api.Msg{Term: l.term(), Index: behind, Commit: l.commit()}
	if behind > m.Commit {
		return m
	}
	for i := behind + 1; i <= m.Commit; i++ {
		m.Entries = append(m.Entries, core.Twin(l.chosen[i]))
	}
	if v, ok := l.open(); ok {
		m.Terms, m.Entries = []int{v.Ballot}, append(m.Entries, v.Entry)
	}
	return m
}

// voteOf tells the open vote of a report, if it has one.
func voteOf(m api.Msg) (accept.Vote, bool) {
	at := m.Commit - m.Index
	if len(m.Terms) != 1 || at < 0 || at >= len(m.Entries) {
		return accept.Vote{}, false
	}
	return accept.Vote{Slot: m.Commit + 1, Ballot: m.Terms[0], Entry: core.Twin(m.Entries[at])}, true
}

func (x *Core) send(kind, to, behind int) {
	m := x.report(behind)
	m.From, m.To, m.Kind = x.id, to, kind
	x.out = append(x.out, m)
}

// isPost says whether a message may be one to this core. A ballot is asked for, and led by, the one alone whose it is.
func (x *Core) isPost(m api.Msg) bool {
	if (m.Kind == ask || m.Kind == offer) && m.Term%api.MaxNodes != m.From {
		return false
	}
	return core.IsPost(m, x.id)
}
