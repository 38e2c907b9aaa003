package seal

import (
	"synodal/api"
	"synodal/wire"
)

// A generation's bytes begin with three ints: N, Engine, Base.
const (
	intBytes  = 8
	headBytes = 3 * intBytes
)

func (g *Gens) Save() []byte {
	b := []byte{byte(len(g.list))}
	for _, x := range g.list {
		b = appendInts(b, x.N, x.Engine, x.Base)
		c, _ := wire.EncodeConfig(x.Config) // what conf.Check allows it never refuses
		b = append(b, c...)
	}
	return b
}

// restored makes the generations that bytes say, one behind the other. Bytes that can't be read at all are refused ahead of such as say what may not be.
func restored(b []byte) (*Gens, error) {
	list, err := parse(b)
	if err != nil {
		return nil, err
	}
	if len(list) == 0 {
		return nil, &flaw{inner: api.ErrNone}
	}
	g := &Gens{}
	for _, x := range list {
		if err := g.add(x); err != nil {
			return nil, &flaw{inner: err}
		}
	}
	return g, nil
}

// parse reads all generations that bytes say, whatever these are.
func parse(b []byte) ([]api.Generation, error) {
	if len(b) == 0 {
		return nil, api.ErrCut
	}
	count, rest := int(b[0]), b[1:]
	var list []api.Generation
	for i := range count {
		x, size, e := parseOne(rest)
		if e != api.OK {
			return nil, &refusal{n: i + 1, inner: e}
		}
		list, rest = append(list, x), rest[size:]
	}
	if len(rest) > 0 {
		return nil, api.ErrMore
	}
	return list, nil
}

// parseOne reads the generation that b begins with, and tells how many bytes it takes.
func parseOne(b []byte) (api.Generation, int, api.Errno) {
	if len(b) < headBytes {
		return api.Generation{}, 0, api.ErrCut
	}
	size := headBytes + configSize(b[headBytes:])
	c, e := wire.ParseConfig(b[headBytes:size])
	if e != api.OK {
		return api.Generation{}, 0, e
	}
	return api.Generation{N: intAt(b, 0), Engine: intAt(b, 1), Base: intAt(b, 2), Config: c}, size, api.OK
}

// configSize tells how many bytes the configuration takes that b begins with, as far as b goes: wire tells whether that is enough.
func configSize(b []byte) int {
	at := 0
	for range 2 { // its lists
		if at < len(b) {
			at = min(len(b), at+1+intBytes*int(b[at]))
		}
	}
	return at
}

// intAt is the int behind so many others.
func intAt(b []byte, others int) int {
	n := uint64(0)
	for _, x := range b[others*intBytes:][:intBytes] {
		n = n<<8 | uint64(x)
	}
	return int(n)
}

// appendInts lays ints behind b, of each the highest byte first.
func appendInts(b []byte, ints ...int) []byte {
	for _, n := range ints {
		for shift := 8 * (intBytes - 1); shift >= 0; shift -= 8 {
			b = append(b, byte(uint64(n)>>shift))
		}
	}
	return b
}
