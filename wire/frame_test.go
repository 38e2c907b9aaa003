package wire

import (
	"bytes"
	"encoding/binary"
	"hash/crc32"
	"math/rand"
	"strings"
	"testing"

	"synodal/api"
)

// rawFrame lays a frame without any check.
func rawFrame(length, sum uint32, b string) []byte {
	f := binary.BigEndian.AppendUint32(nil, length)
	return append(binary.BigEndian.AppendUint32(f, sum), b...)
}

func castagnoli(b string) uint32 {
	return crc32.Checksum([]byte(b), crc32.MakeTable(crc32.Castagnoli))
}

func goodFrame(b string) []byte { return rawFrame(uint32(len(b)), castagnoli(b), b) }

// checkSplit holds what Split answers against the frames ahead, how many bytes they take, and an error.
func checkSplit(t *testing.T, b []byte, want []string, n int, wantErr api.Errno) {
	t.Helper()
	l, got, e := Split(b)
	if e != wantErr || got != n || len(l) != len(want) {
		t.Fatalf("%d frames, %d bytes, %v; not %d, %d, %v", len(l), got, e, len(want), n, wantErr)
	}
	for i := range l {
		if string(l[i]) != want[i] {
			t.Errorf("frame %d: %q, not %q", i, l[i], want[i])
		}
	}
}

// P203: the document's example, and other sums.
func TestCrc(t *testing.T) {
	if c := Crc([]byte("123456789")); c != 0xE3069283 {
		t.Errorf("%X", c)
	}
	if Crc(nil) != 0 || Crc([]byte{}) != 0 {
		t.Error("the sum of nothing")
	}
	r := rand.New(rand.NewSource(4))
	for n := range 300 {
		b := anyBytes(r, n)
		if c := Crc(b); c != castagnoli(string(b)) {
			t.Errorf("%x: %X", b, c)
		}
	}
	for x := range 256 {
		if c := Crc([]byte{byte(x)}); c != castagnoli(string([]byte{byte(x)})) {
			t.Errorf("%x: %X", x, c)
		}
	}
}

// P203: length, sum, bytes; up to MaxFrame of them.
func TestFrame(t *testing.T) {
	for _, s := range []string{"", "a", "123456789", strings.Repeat("xyz", 100), strings.Repeat("\x00", 65535), strings.Repeat("\x80", 65536)} {
		f, e := Frame([]byte(s))
		if e != api.OK || !bytes.Equal(f, goodFrame(s)) {
			t.Errorf("of %d bytes: %v", len(s), e)
		}
		checkSplit(t, f, []string{s}, len(f), api.OK)
	}
	if f, e := Frame([]byte("123456789")); string(f) != "\x00\x00\x00\x09\xe3\x06\x92\x83123456789" {
		t.Errorf("%x, %v", f, e)
	}
	if f, e := Frame(nil); e != api.OK || string(f) != "\x00\x00\x00\x00\x00\x00\x00\x00" {
		t.Errorf("%x, %v", f, e)
	}
	for _, n := range []int{65537, 65536 + 256, 1 << 20} {
		if f, e := Frame(make([]byte, n)); e != api.ErrLong || len(f) != 0 {
			t.Errorf("of %d bytes: %d, %v", n, len(f), e)
		}
	}
}

// P204: frames one behind the other are split into what they hold.
func TestSplit(t *testing.T) {
	checkSplit(t, nil, nil, 0, api.OK)
	want := []string{"", "one", "", strings.Repeat("z", api.MaxFrame), "\x00\x00\x00\x01", string(goodFrame("inner"))}
	var all []byte
	for i, s := range want {
		f, e := Frame([]byte(s))
		if e != api.OK {
			t.Fatal(e)
		}
		all = append(all, f...)
		checkSplit(t, all, want[:i+1], len(all), api.OK)
	}
}

// P203: a frame that is cut off anywhere is not there yet, and that is no error.
func TestSplitCut(t *testing.T) {
	ahead := goodFrame("ahead")
	for _, s := range []string{"", "a", "123456789", strings.Repeat("q", api.MaxFrame)} {
		f := goodFrame(s)
		for k := range f {
			if k > 30 && k < len(f)-3 {
				continue
			}
			checkSplit(t, f[:k], nil, 0, api.OK)
			checkSplit(t, append(bytes.Clone(ahead), f[:k]...), []string{"ahead"}, len(ahead), api.OK)
		}
	}
	for _, b := range []string{"\xff", "\x00\x02", "\xff\xff\xff"} { // no length yet
		checkSplit(t, append(bytes.Clone(ahead), b...), []string{"ahead"}, len(ahead), api.OK)
	}
	bad := rawFrame(9, 1, "123456789") // no sum of it before it is whole
	checkSplit(t, bad[:len(bad)-1], nil, 0, api.OK)
}

// P203: a sum that is another one; what stands ahead is answered beside the error, and nothing behind it.
func TestSplitSum(t *testing.T) {
	ahead := append(goodFrame("one"), goodFrame("")...)
	f := goodFrame("123456789")
	for k := 4; k < len(f); k++ {
		for bit := range 8 {
			b := append(bytes.Clone(ahead), f...)
			b[len(ahead)+k] ^= 1 << bit
			checkSplit(t, b, []string{"one", ""}, len(ahead), api.ErrSum)
			checkSplit(t, append(b, ahead...), []string{"one", ""}, len(ahead), api.ErrSum)
			checkSplit(t, b[len(ahead):], nil, 0, api.ErrSum)
		}
	}
	checkSplit(t, rawFrame(0, 1, ""), nil, 0, api.ErrSum)
	checkSplit(t, rawFrame(8, castagnoli("123456789"), "123456789"), nil, 0, api.ErrSum)
}

// P203: a length above MaxFrame is told as soon as it is there, ahead of the sum.
func TestSplitLong(t *testing.T) {
	ahead := goodFrame("ahead")
	for _, n := range []uint32{65537, 1 << 24, 1 << 31, 1<<32 - 1} {
		for _, f := range [][]byte{rawFrame(n, 0, "")[:4], rawFrame(n, 0, "")[:7], rawFrame(n, 0, ""), rawFrame(n, 7, "some"), append(rawFrame(n, 7, "some"), ahead...)} {
			checkSplit(t, f, nil, 0, api.ErrLong)
			checkSplit(t, append(bytes.Clone(ahead), f...), []string{"ahead"}, len(ahead), api.ErrLong)
		}
	}
	long := strings.Repeat("x", 65537)
	checkSplit(t, goodFrame(long), nil, 0, api.ErrLong)
	checkSplit(t, rawFrame(65536, 0, "")[:8], nil, 0, api.OK)
	checkSplit(t, append(rawFrame(1, 0, "a"), rawFrame(65537, 0, "")...), nil, 0, api.ErrSum)
	checkSplit(t, append(rawFrame(65537, 0, ""), rawFrame(1, 0, "a")...), nil, 0, api.ErrLong)
}

// P2: frames are new memory, and what is handed in stays as it was, its spare room too.
func TestFrameMemory(t *testing.T) {
	row := []byte("frames")
	f, _ := Frame(row[:3])
	if string(row) != "frames" {
		t.Errorf("changed: %q", row)
	}
	clear(row)
	checkSplit(t, f, []string{"fra"}, 11, api.OK)

	b := append(append(goodFrame("one"), goodFrame("two")...), rawFrame(3, 0, "bad")...)
	kept := bytes.Clone(b)
	l, _, e := Split(b)
	if e != api.ErrSum || !bytes.Equal(b, kept) {
		t.Errorf("%v, changed: %x", e, b)
	}
	clear(b)
	first := l[0][:cap(l[0])]
	for i := range first {
		first[i] = 'x'
	}
	if string(l[1]) != "two" || string(l[0]) != "xxx" {
		t.Errorf("%q", l)
	}
	if m := append(l[1], "more"...); string(m) != "twomore" || !bytes.Equal(b, make([]byte, len(b))) {
		t.Errorf("%q, %q", m, b)
	}
}
