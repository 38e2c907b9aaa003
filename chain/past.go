package chain

import (
	"slices"

	"synodal/api"
	"synodal/core"
)

// past is what the instances have made that are at their end: the log up to the last KConf that is known to be committed.
type past struct {
	first   []int // the members of the first instance
	base    int   // behind which that one begins
	entries []api.Entry
}

// end is the index of the last KConf, behind which the last instance begins.
func (p *past) end() int { return p.base + len(p.entries) }

// lists are the members of each instance, the last one's, too.
func (p *past) lists() [][]int {
	out := [][]int{p.first}
	for _, e := range p.entries {
		if e.Kind == api.KConf {
			out = append(out, e.Members)
		}
	}
	return out
}

// count is how many instances are at their end.
func (p *past) count() int { return len(p.lists()) - 1 }

// members are those of the last instance.
func (p *past) members() []int { return p.lists()[p.count()] }

// isElder says whether a node is a member of an instance that is at its end.
func (p *past) isElder(id int) bool {
	return slices.ContainsFunc(p.lists()[:p.count()], func(members []int) bool { return slices.Contains(members, id) })
}

// isMember says whether a node is one of the last instance.
func (p *past) isMember(id int) bool { return slices.Contains(p.members(), id) }

// ended tells how many of these entries, which come next, instances at their end have made: all up to the last KConf, if there is nothing ahead of it that no such instance makes.
func (p *past) ended(next []api.Entry) int {
	members, count := p.members(), 0
	for i, e := range next {
		if p.end()+i >= core.Room || core.Unfit(e) != nil || e.Kind == api.KMigrate {
			break
		}
		if e.Kind != api.KConf {
			continue
		}
		if slices.Equal(e.Members, members) {
			break
		}
		members, count = e.Members, i+1
	}
	return count
}

// grow takes what comes next, up to the last KConf; it tells whether that is anything.
func (p *past) grow(next []api.Entry) bool {
	count := p.ended(next)
	for _, e := range next[:count] {
		p.entries = append(p.entries, core.Twin(e))
	}
	return count > 0
}
