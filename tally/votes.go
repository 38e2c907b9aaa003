package tally

import (
	"slices"

	"synodal/api"
	"synodal/conf"
)

// vote is what a member has said; in a map of them whoever is not there has not voted.
type vote int

const (
	notYet vote = iota
	votedYes
	votedNo
)

// Votes are those of members.
type Votes struct {
	config api.Config
	said   map[int]vote
}

func New(c api.Config) *Votes {
	own := api.Config{Old: slices.Clone(c.Old), New: slices.Clone(c.New)}
	return &Votes{config: own, said: map[int]vote{}}
}

func (v *Votes) Add(id int, yes bool) bool {
	if !conf.In(v.config, id) || v.said[id] != notYet {
		return false
	}
	v.said[id] = votedNo
	if yes {
		v.said[id] = votedYes
	}
	return true
}

func (v *Votes) Won() bool { return conf.Quorum(v.config, v.who(votedYes)) }

// Lost asks for the best that may yet come: that all who have not voted say yes.
func (v *Votes) Lost() bool { return !conf.Quorum(v.config, v.who(votedYes, notYet)) }

// who tells the members whose vote is one of these.
func (v *Votes) who(votes ...vote) []int {
	var out []int
	for _, id := range conf.Members(v.config) {
		if slices.Contains(votes, v.said[id]) {
			out = append(out, id)
		}
	}
	return out
}
