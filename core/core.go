// Package core: what the cores of both engines share: whom they talk to, what they may be asked for, how they tell why not, and the bytes as which they last.
package core

import (
	"synodal/api"
	"synodal/conf"
	"synodal/wire"
)

// Room is how many entries may stand in a log, all in all, and yet one more of a client's is taken.
const Room = api.MaxLog - 8

// IsNode says whether there may be a node of that number.
func IsNode(id int) bool { return id >= 0 && id < api.MaxNodes }

// Check tells what is wrong with what a core is to begin with.
func Check(id int, members []int, base int) api.Errno {
	if !IsNode(id) || base < 0 || base > api.MaxLog {
		return api.ErrArg
	}
	return conf.Check(api.Config{New: members})
}

// Others are all nodes but one.
func Others(id int) []int {
	var out []int
	for other := range api.MaxNodes {
		if other != id {
			out = append(out, other)
		}
	}
	return out
}

// Reaches says whether a message is to this core, of another one, and such as may be sent: what it brings may have to be saved.
func Reaches(m api.Msg, id int) bool {
	if m.To != id || m.From == id || !IsNode(m.From) {
		return false
	}
	_, e := wire.EncodeMsg(m)
	return e == api.OK
}

// IsPost says whether a message reaches this core, and is of a term.
func IsPost(m api.Msg, id int) bool { return m.Term >= 1 && Reaches(m, id) }
