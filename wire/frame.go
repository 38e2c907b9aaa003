package wire

import (
	"bytes"

	"synodal/api"
)

// A frame begins with its length and its sum, 4 bytes each.
const (
	wordBytes = 4
	headBytes = 2 * wordBytes
)

// Frame lays bytes into a frame; Split takes frames from a row of bytes, as many as are whole.
func Frame(b []byte) ([]byte, api.Errno) {
	if len(b) > api.MaxFrame {
		return nil, api.ErrLong
	}
	f := make([]byte, 0, headBytes+len(b))
	f = appendNumber(f, wordBytes, uint64(len(b)))
	f = appendNumber(f, wordBytes, uint64(Crc(b)))
	return append(f, b...), api.OK
}

func Split(b []byte) ([][]byte, int, api.Errno) {
	var frames [][]byte
	at := 0
	for {
		size, err := frameAt(b, at)
		if size == 0 {
			return frames, at, number(err)
		}
		frames = append(frames, bytes.Clone(b[at+headBytes:at+size]))
		at += size
	}
}

// frameAt tells how many bytes the frame takes that begins there; 0, if it is not whole, or has a flaw. A length is held against its bound as soon as it is there: nobody is to wait for more than a frame may have.
func frameAt(b []byte, at int) (int, error) {
	rest := b[at:]
	if len(rest) < wordBytes {
		return 0, nil
	}
	length := joined(rest[:wordBytes])
	if length > api.MaxFrame {
		return 0, &flaw{at: at, inner: api.ErrLong}
	}
	size := headBytes + int(length)
	if len(rest) < size {
		return 0, nil
	}
	if joined(rest[wordBytes:headBytes]) != uint64(Crc(rest[headBytes:size])) {
		return 0, &flaw{at: at + wordBytes, inner: api.ErrSum}
	}
	return size, nil
}

// halves has, for each lower half of a byte, what the turned polynomial 82F63B78 makes of it in four steps.
var halves = [16]uint32{
	0x00000000, 0x105ec76f, 0x20bd8ede, 0x30e349b1, 0x417b1dbc, 0x5125dad3, 0x61c69362, 0x7198540d,
	0x82f63b78, 0x92a8fc17, 0xa24bb5a6, 0xb21572c9, 0xc38d26c4, 0xd3d3e1ab, 0xe330a81a, 0xf36e6f75,
}

func Crc(b []byte) uint32 {
	sum := ^uint32(0)
	for _, x := range b {
		sum ^= uint32(x)
		sum = sum>>4 ^ halves[sum&15]
		sum = sum>>4 ^ halves[sum&15]
	}
	return ^sum
}
