package conf

import (
	"slices"

	"synodal/api"
)

// The lists of a configuration, by what they must be: the newer one all that the elder one must, and more.
const (
	elder = iota
	newer
)

// wrong tells what is wrong with a list that stands in a configuration as the elder or the newer one.
func wrong(which int, list []int) api.Errno {
	switch which {
	case newer:
		if len(list) == 0 { // nothing else is wrong with such a list, so that this may be asked first
			return api.ErrNone
		}
		fallthrough
	case elder:
		if len(list) > api.MaxMembers {
			return api.ErrMany
		}
		if !climbs(list) {
			return api.ErrArg
		}
	}
	return api.OK
}

// climbs says whether a list is of nodes, each above the one ahead.
func climbs(list []int) bool {
	ahead := -1
	for _, id := range list {
		if id <= ahead || id >= api.MaxNodes {
			return false
		}
		ahead = id
	}
	return true
}

// rising tells all that stand in some lists, from the least on, each once.
func rising(lists ...[]int) []int {
	all := slices.Concat(lists...)
	slices.Sort(all)
	return slices.Compact(all)
}

// most says whether more than half of a list are among those who said yes. These are rising: whoever asks may hand in very many, and each more than once.
func most(list, said []int) bool {
	count := 0
	for _, id := range list {
		if _, ok := slices.BinarySearch(said, id); ok {
			count++
		}
	}
	return count > len(list)/2
}

// twin is the same list in memory of its own.
func twin(list []int) []int {
	out := make([]int, len(list))
	copy(out, list)
	return out
}
