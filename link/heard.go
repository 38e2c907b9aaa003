package link

import (
	"synodal/api"
)

// window is how far below the greatest number one is too far to be taken.
const window = 256

// heard is what was taken of one peer in its greatest life. A number that is too far is refused, taken or not, so that the others have a bit each if they are counted modulo window.
type heard struct {
	life  int
	top   int // the greatest number that was taken
	taken [window / 64]uint64
}

// refuse tells why a message may not be taken; nil, if it may.
func (h heard) refuse(life, n int) error {
	switch {
	case life < 1 || n < 1:
		return &refusal{life: life, n: n, inner: api.ErrArg}
	case life < h.life:
		return &refusal{life: life, n: n, inner: api.ErrStale}
	case life == h.life && h.knows(n):
		return &refusal{life: life, n: n, inner: api.ErrIs}
	}
	return nil
}

// knows says of a number whether it was taken, or is too far to tell.
func (h heard) knows(n int) bool {
	return h.top-n >= window || n <= h.top && h.taken[word(n)]&bit(n) != 0
}

// taking is what was heard with one message more, which may be taken.
func (h heard) taking(life, n int) heard {
	if life > h.life {
		h = heard{life: life} // numbers begin anew in each life
	}
	h = h.reach(n)
	h.taken[word(n)] |= bit(n)
	return h
}

// reach makes a number the greatest, if it is, and takes back the bits of those that it makes too far: they are now the bits of the newer ones.
func (h heard) reach(n int) heard {
	for i := range min(n-h.top, window) {
		h.taken[word(n-i)] &^= bit(n - i)
	}
	h.top = max(h.top, n)
	return h
}

func word(n int) int { return n % window / 64 }

func bit(n int) uint64 { return 1 << (n % 64) }
