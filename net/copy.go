package net

import (
	"synodal/api"
)

// copied is the same message in new memory: no list of it shares any with another one, or with the message's that it is made of.
func copied(m *api.Msg) *api.Msg {
	c := *m
	c.Terms = numbers(m.Terms...)
	c.Entries = entries(m.Entries...)
	c.Config = api.Config{Old: numbers(m.Config.Old...), New: numbers(m.Config.New...)}
	return &c
}

// numbers begins at no list, not at an empty piece of l: that would keep l's memory.
func numbers(l ...int) []int { return append([]int(nil), l...) }

func entries(l ...api.Entry) []api.Entry {
	c := append([]api.Entry(nil), l...)
	for i := range c {
		c[i].Members = numbers(c[i].Members...)
	}
	return c
}
