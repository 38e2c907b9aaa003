package core

import (
	"bytes"

	"synodal/api"
	"synodal/wire"
)

// savedKind is the kind of the message as which a core lasts; none of that kind is sent.
const savedKind = 15

// Pack lays what must last of a core into a frame, by whose sum other bytes are told. It is said by a message: Index is where its log begins, New of Config the members that it began with, the rest its own business.
func Pack(m api.Msg) []byte {
	m.Kind = savedKind
	b, _ := wire.EncodeMsg(m)
	f, _ := wire.Frame(b)
	return f
}

// Restore reads what lasts of a core from the bytes as which it was packed. Whatever would not be packed as the same bytes again no core has saved.
func Restore[L any](id int, b []byte, read func(api.Msg) (L, api.Errno), packed func(L) []byte) (L, error) {
	var none L
	m, e := unpack(b)
	if e == api.OK {
		e = Check(id, m.Config.New, m.Index)
	}
	if e != api.OK {
		return none, &Flaw{Inner: e}
	}
	l, e := read(m)
	if e == api.OK && !bytes.Equal(packed(l), b) {
		e = api.ErrMore
	}
	if e != api.OK {
		return none, &Flaw{Inner: e}
	}
	return l, nil
}

// unpack tells the message in the one frame that these bytes are.
func unpack(b []byte) (api.Msg, api.Errno) {
	frames, _, e := wire.Split(b)
	if e != api.OK {
		return api.Msg{}, e
	}
	if len(frames) != 1 {
		return api.Msg{}, api.ErrCut
	}
	return wire.ParseMsg(frames[0])
}
