package wire

import (
	"errors"
	"strconv"

	"synodal/api"
)

// part is what a byte stands for that not every number may stand in.
type part int

const (
	entryKind part = iota
	engine
	msgKind
	yesNo
	textLength
	nodeCount // of a list of nodes
	listCount // of any other list
)

// The kinds of messages; api has no names for them.
const (
	firstMsgKind = 1
	lastMsgKind  = 15
)

// refusal is the number by which n is refused as that part; OK, if it may be. Writing and reading ask the same rule, so that neither takes what the other refuses.
func (p part) refusal(n int) api.Errno {
	low, high, e := 0, 0, api.ErrKind
	switch p {
	case entryKind:
		high = api.KDone
	case engine:
		high = api.Chain
	case msgKind:
		low, high = firstMsgKind, lastMsgKind
	case yesNo:
		high, e = 1, api.ErrBad
	case textLength:
		high, e = api.MaxData, api.ErrLong
	case nodeCount:
		high, e = api.MaxNodes, api.ErrMany
	case listCount:
		high, e = api.MaxLog, api.ErrMany
	}
	if n < low || n > high {
		return e
	}
	return api.OK
}

// flaw is what is wrong, wrapped with the place of the byte where it was met.
type flaw struct {
	at    int
	inner error
}

func (f *flaw) Error() string { return "byte " + strconv.Itoa(f.at) + ": " + f.inner.Error() }

func (f *flaw) Unwrap() error { return f.inner }

// number is what a face tells of an error; OK of none.
func number(err error) api.Errno {
	var e api.Errno
	if !errors.As(err, &e) {
		return api.OK
	}
	return e
}
