package chain

import (
	"synodal/api"
	"synodal/paxos"
)

// ballotBits is how many bits of a term its ballot has; what is above them says of which instance it is. No instance comes to so many ballots while the limits hold.
const ballotBits = 34

// instance is one of the chain that is at work. It is a core of its own, but for how others see its ballots: each is a term of the chain's, above all terms of elder instances.
type instance struct {
	*paxos.Core
	number int // from 1 on
}

// opened is the instance behind a past, of which nothing is known yet.
func opened(id int, p *past) *instance {
	c, _ := paxos.New(id, p.members(), p.end()) // a past ends with what may be
	return &instance{Core: c, number: p.count() + 1}
}

// numberOf tells of which instance a term is.
func numberOf(term int) int { return term>>ballotBits + 1 }

// termOf tells the chain's term of a ballot of this instance's.
func (i *instance) termOf(ballot int) int { return (i.number-1)<<ballotBits + ballot }

func (i *instance) Term() int { return i.termOf(i.Core.Term()) }

// Out are its messages, as the chain sends them.
func (i *instance) Out() []api.Msg {
	out := i.Core.Out()
	for k := range out {
		out[k].Term = i.termOf(out[k].Term)
	}
	return out
}

// Step takes one of its messages, as the chain sends them.
func (i *instance) Step(m api.Msg) {
	m.Term -= i.termOf(0)
	i.Core.Step(m)
}

// take is Propose; why it refuses is told around of which instance that is.
func (i *instance) take(e api.Entry) (int, error) {
	index, errno := i.Propose(e)
	if errno != api.OK {
		return 0, &refusal{number: i.number, inner: errno}
	}
	return index, nil
}

// known is what it knows to be committed, behind an index.
func (i *instance) known(behind int) []api.Entry {
	var out []api.Entry
	for index := behind + 1; index <= i.Commit(); index++ {
		e, _ := i.Entry(index)
		out = append(out, e)
	}
	return out
}
