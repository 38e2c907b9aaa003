package wire

import (
	"bytes"
	"encoding/binary"
	"fmt"
	"math"
	"math/rand"
	"reflect"
	"slices"
	"strings"
	"testing"

	"synodal/api"
)

// The bytes of things as P201 says them, laid without any check: so that what Encode refuses can be handed to Parse.

func rawInts(l ...int) []byte {
	var b []byte
	for _, n := range l {
		b = binary.BigEndian.AppendUint64(b, uint64(n))
	}
	return b
}

func rawList(l []int) []byte { return append([]byte{byte(len(l))}, rawInts(l...)...) }

func rawEntry(e api.Entry) []byte {
	return slices.Concat([]byte{byte(e.Kind)}, rawInts(e.Client, e.Seq), []byte{byte(len(e.Data))}, []byte(e.Data), rawList(e.Members), []byte{byte(e.To)})
}

func rawConfig(c api.Config) []byte { return append(rawList(c.Old), rawList(c.New)...) }

func rawMsg(m api.Msg) []byte {
	b := append(rawInts(m.From, m.To, m.Gen), byte(m.Kind))
	b = append(b, rawInts(m.Term, m.Index, m.Last, m.Commit)...)
	if m.Yes {
		b = append(b, 1)
	} else {
		b = append(b, 0)
	}
	b = append(b, rawList(m.Terms)...)
	b = append(b, byte(len(m.Entries)))
	for _, e := range m.Entries {
		b = append(b, rawEntry(e)...)
	}
	return append(b, rawConfig(m.Config)...)
}

// someEntry, someMsg, someConfig have something in each field; they are new each time.
func someEntry() api.Entry {
	return api.Entry{Kind: api.KConf, Client: 3, Seq: 258, Data: "ab", Members: []int{1, 4}, To: api.Raft}
}

func someConfig() api.Config { return api.Config{Old: []int{0, 5}, New: []int{2, 6, 7}} }

func someMsg() api.Msg {
	return api.Msg{From: 1, To: 2, Gen: 3, Kind: 4, Term: 5, Index: 6, Last: 7, Commit: 8, Yes: true, Terms: []int{9, 10, 11}, Entries: []api.Entry{someEntry(), {}, someEntry()}, Config: someConfig()}
}

// numbersOf are ints with and without a sign, the outermost ones, and such as differ in one byte.
var numbersOf = []int{0, 1, -1, 255, 256, -256, 1<<40 - 1, 0x0102030405060708, -0x0102030405060708, math.MaxInt, math.MinInt}

func anyEntry(r *rand.Rand) api.Entry {
	return api.Entry{Kind: r.Intn(5), Client: int(r.Uint64()), Seq: int(r.Uint64()), Data: string(anyBytes(r, r.Intn(api.MaxData+1))), Members: anyInts(r, api.MaxNodes), To: r.Intn(3)}
}

func anyConfig(r *rand.Rand) api.Config {
	return api.Config{Old: anyInts(r, api.MaxNodes), New: anyInts(r, api.MaxNodes)}
}

func anyMsg(r *rand.Rand) api.Msg {
	l := anyInts(r, 8)
	for len(l) < 7 {
		l = append(l, int(r.Uint64()))
	}
	m := api.Msg{From: l[0], To: l[1], Gen: l[2], Kind: 1 + r.Intn(15), Term: l[3], Index: l[4], Last: l[5], Commit: l[6], Yes: r.Intn(2) == 1, Terms: anyInts(r, api.MaxLog), Config: anyConfig(r)}
	for range r.Intn(6) {
		m.Entries = append(m.Entries, anyEntry(r))
	}
	return m
}

func anyInts(r *rand.Rand, most int) []int {
	l := make([]int, r.Intn(most+1))
	for i := range l {
		l[i] = int(r.Uint64())
	}
	return l
}

func anyBytes(r *rand.Rand, n int) []byte {
	b := make([]byte, n)
	for i := range b {
		b[i] = byte(r.Intn(256))
	}
	return b
}

// checkEncoded holds what an Encode answered against bytes or an error.
func checkEncoded(t *testing.T, b []byte, e api.Errno, want []byte, wantErr api.Errno) {
	t.Helper()
	if wantErr != api.OK {
		want = nil
	}
	if e != wantErr || !bytes.Equal(b, want) {
		t.Errorf("%x, %v; not %x, %v", b, e, want, wantErr)
	}
}

// checkParsed holds what a Parse answered against a thing or an error.
func checkParsed[T any](t *testing.T, x T, e api.Errno, want T, wantErr api.Errno) {
	t.Helper()
	if wantErr != api.OK {
		var none T
		want = none
	}
	if e != wantErr || fmt.Sprintf("%+v", x) != fmt.Sprintf("%+v", want) {
		t.Errorf("%+v, %v; not %+v, %v", x, e, want, wantErr)
	}
}

func checkEntry(t *testing.T, x api.Entry, want api.Errno) {
	t.Helper()
	b, e := EncodeEntry(x)
	checkEncoded(t, b, e, rawEntry(x), want)
	p, e := ParseEntry(rawEntry(x))
	checkParsed(t, p, e, x, want)
}

func checkMsg(t *testing.T, x api.Msg, want api.Errno) {
	t.Helper()
	b, e := EncodeMsg(x)
	checkEncoded(t, b, e, rawMsg(x), want)
	p, e := ParseMsg(rawMsg(x))
	checkParsed(t, p, e, x, want)
}

func checkConfig(t *testing.T, x api.Config, want api.Errno) {
	t.Helper()
	b, e := EncodeConfig(x)
	checkEncoded(t, b, e, rawConfig(x), want)
	p, e := ParseConfig(rawConfig(x))
	checkParsed(t, p, e, x, want)
}

// P201: the bytes of things, written out.
func TestBytes(t *testing.T) {
	entry := "\x03" + "\x00\x00\x00\x00\x00\x00\x01\x02" + "\xff\xff\xff\xff\xff\xff\xff\xff" + "\x03a\x00\xff" + "\x01\x00\x00\x00\x00\x00\x00\x00\x07" + "\x02"
	b, e := EncodeEntry(api.Entry{Kind: api.KMigrate, Client: 258, Seq: -1, Data: "a\x00\xff", Members: []int{7}, To: api.Chain})
	checkEncoded(t, b, e, []byte(entry), api.OK)

	config := "\x01\x80\x00\x00\x00\x00\x00\x00\x00" + "\x02\x7f\xff\xff\xff\xff\xff\xff\xff\x00\x00\x00\x00\x00\x00\x00\x08"
	b, e = EncodeConfig(api.Config{Old: []int{math.MinInt}, New: []int{math.MaxInt, 8}})
	checkEncoded(t, b, e, []byte(config), api.OK)

	one := func(n byte) string { return "\x00\x00\x00\x00\x00\x00\x00" + string([]byte{n}) }
	msg := one(1) + one(2) + one(3) + "\x04" + one(5) + one(6) + one(7) + one(8) + "\x01" + "\x02" + one(9) + one(10) +
		"\x02" + "\x01" + one(11) + one(12) + "\x01x" + "\x00" + "\x00" + "\x00" + one(0) + one(0) + "\x00\x00\x00" +
		"\x01" + one(13) + "\x01" + one(14)
	b, e = EncodeMsg(api.Msg{From: 1, To: 2, Gen: 3, Kind: 4, Term: 5, Index: 6, Last: 7, Commit: 8, Yes: true, Terms: []int{9, 10}, Entries: []api.Entry{{Kind: 1, Client: 11, Seq: 12, Data: "x"}, {}}, Config: api.Config{Old: []int{13}, New: []int{14}}})
	checkEncoded(t, b, e, []byte(msg), api.OK)
}

// P201: things with nothing in them.
func TestBytesOfNothing(t *testing.T) {
	checkEntry(t, api.Entry{}, api.OK)
	checkConfig(t, api.Config{}, api.OK)
	checkMsg(t, api.Msg{Kind: 1}, api.OK)
	for name, n := range map[string]int{"entry": len(rawEntry(api.Entry{})) - 20, "config": len(rawConfig(api.Config{})) - 2, "msg": len(rawMsg(api.Msg{})) - 62} {
		if n != 0 {
			t.Errorf("%s: %d bytes more than it has", name, n)
		}
	}
}

// P201: numbers with a sign in every field that is an int.
func TestSigns(t *testing.T) {
	for i, n := range numbersOf {
		m := numbersOf[(i+1)%len(numbersOf)]
		checkEntry(t, api.Entry{Kind: 1, Client: n, Seq: m, Members: numbersOf[:9]}, api.OK)
		checkEntry(t, api.Entry{Client: m, Members: numbersOf[2:]}, api.OK)
		checkConfig(t, api.Config{Old: []int{n}, New: []int{m, n}}, api.OK)
		for f := range 7 {
			x := api.Msg{Kind: 1, Terms: []int{m, n}}
			*[]*int{&x.From, &x.To, &x.Gen, &x.Term, &x.Index, &x.Last, &x.Commit}[f] = n
			checkMsg(t, x, api.OK)
		}
	}
}

// P202: kinds at their bounds and beyond them.
func TestKinds(t *testing.T) {
	kind := func(ok bool) api.Errno {
		if ok {
			return api.OK
		}
		return api.ErrKind
	}
	for n := range 256 { // as one byte may say it
		e := someEntry()
		e.Kind = n
		checkEntry(t, e, kind(n <= 4))
		e = someEntry()
		e.To = n
		checkEntry(t, e, kind(n <= 2))
		m := someMsg()
		m.Kind = n
		checkMsg(t, m, kind(n >= 1 && n <= 15))
		m = someMsg()
		m.Entries[1].Kind = n
		checkMsg(t, m, kind(n <= 4))
		m = someMsg()
		m.Entries[2].To = n
		checkMsg(t, m, kind(n <= 2))
	}
	for _, n := range []int{-1, -255, 256, 257, 1 << 32, math.MinInt, math.MaxInt} { // whose lowest byte may be a kind
		for _, e := range []api.Entry{{Kind: n}, {To: n}} {
			b, err := EncodeEntry(e)
			checkEncoded(t, b, err, nil, api.ErrKind)
			b, err = EncodeMsg(api.Msg{Kind: 1, Entries: []api.Entry{{}, e}})
			checkEncoded(t, b, err, nil, api.ErrKind)
		}
		b, err := EncodeMsg(api.Msg{Kind: n})
		checkEncoded(t, b, err, nil, api.ErrKind)
	}
}

// P202: texts of MaxData bytes and of one more.
func TestTexts(t *testing.T) {
	for n, want := range map[int]api.Errno{0: api.OK, 1: api.OK, 15: api.OK, 16: api.OK, 17: api.ErrLong, 128: api.ErrLong, 255: api.ErrLong} {
		e := someEntry()
		e.Data = strings.Repeat("\xe9", n)
		checkEntry(t, e, want)
		m := someMsg()
		m.Entries[2] = e
		checkMsg(t, m, want)
	}
	for _, n := range []int{256, 256 + 3, 1 << 16} { // whose lowest byte may be a length
		b, e := EncodeEntry(api.Entry{Data: strings.Repeat("x", n)})
		checkEncoded(t, b, e, nil, api.ErrLong)
	}
}

// P202: lists of as many elements as they may have, and of one more.
func TestLists(t *testing.T) {
	for _, list := range []struct {
		most int
		set  func(m *api.Msg, n int)
	}{
		{api.MaxLog, func(m *api.Msg, n int) { m.Terms = make([]int, n) }},
		{api.MaxLog, func(m *api.Msg, n int) { m.Entries = make([]api.Entry, n) }},
		{api.MaxNodes, func(m *api.Msg, n int) { m.Entries[2].Members = make([]int, n) }},
		{api.MaxNodes, func(m *api.Msg, n int) { m.Config.Old = make([]int, n) }},
		{api.MaxNodes, func(m *api.Msg, n int) { m.Config.New = make([]int, n) }},
	} {
		for _, n := range []int{0, 1, list.most - 1, list.most, list.most + 1, 65, 128, 255} {
			want := api.OK
			if n > list.most {
				want = api.ErrMany
			}
			m := someMsg()
			list.set(&m, n)
			checkMsg(t, m, want)
			checkConfig(t, m.Config, told(want, len(m.Config.Old) > 9 || len(m.Config.New) > 9))
			if len(m.Entries) == 3 {
				checkEntry(t, m.Entries[2], told(want, len(m.Entries[2].Members) > 9))
			}
		}
		for _, n := range []int{256, 256 + 3, 1 << 16} { // whose lowest byte may be a count
			m := someMsg()
			list.set(&m, n)
			b, e := EncodeMsg(m)
			checkEncoded(t, b, e, nil, api.ErrMany)
		}
	}
}

func told(e api.Errno, there bool) api.Errno {
	if there {
		return e
	}
	return api.OK
}

// P202: a byte that is neither yes nor no.
func TestYes(t *testing.T) {
	for n := range 256 {
		m := someMsg()
		b := rawMsg(m)
		b[57] = byte(n)
		m.Yes = n == 1
		want := api.OK
		if n > 1 {
			want = api.ErrBad
		}
		p, e := ParseMsg(b)
		checkParsed(t, p, e, m, want)
	}
}

// P202: bytes that end at every place, and one byte more behind.
func TestCutAndMore(t *testing.T) {
	entry, msg, config := rawEntry(someEntry()), rawMsg(someMsg()), rawConfig(someConfig())
	for k := range entry {
		p, e := ParseEntry(entry[:k])
		checkParsed(t, p, e, api.Entry{}, api.ErrCut)
	}
	for k := range msg {
		p, e := ParseMsg(msg[:k])
		checkParsed(t, p, e, api.Msg{}, api.ErrCut)
	}
	for k := range config {
		p, e := ParseConfig(config[:k])
		checkParsed(t, p, e, api.Config{}, api.ErrCut)
	}
	for _, more := range [][]byte{{0}, {255}, make([]byte, 100)} {
		p, e := ParseEntry(append(entry, more...))
		checkParsed(t, p, e, api.Entry{}, api.ErrMore)
		q, e := ParseMsg(append(msg, more...))
		checkParsed(t, q, e, api.Msg{}, api.ErrMore)
		r, e := ParseConfig(append(config, more...))
		checkParsed(t, r, e, api.Config{}, api.ErrMore)
	}
	p, e := ParseEntry(nil)
	checkParsed(t, p, e, api.Entry{}, api.ErrCut)
}

// faults are all that can be wrong in a message, in the order of the bytes.
var faults = []struct {
	want api.Errno
	make func(m *api.Msg)
}{
	{api.ErrKind, func(m *api.Msg) { m.Kind = 16 }},
	{api.ErrMany, func(m *api.Msg) { m.Terms = make([]int, 65) }},
	{api.ErrKind, func(m *api.Msg) { m.Entries[0].Kind = 5 }},
	{api.ErrLong, func(m *api.Msg) { m.Entries[0].Data = strings.Repeat("x", 17) }},
	{api.ErrMany, func(m *api.Msg) { m.Entries[0].Members = make([]int, 10) }},
	{api.ErrKind, func(m *api.Msg) { m.Entries[0].To = 3 }},
	{api.ErrLong, func(m *api.Msg) { m.Entries[2].Data = strings.Repeat("x", 20) }},
	{api.ErrMany, func(m *api.Msg) { m.Entries[2].Members = make([]int, 12) }},
	{api.ErrKind, func(m *api.Msg) { m.Entries[2].To = 4 }},
	{api.ErrMany, func(m *api.Msg) { m.Config.Old = make([]int, 10) }},
	{api.ErrMany, func(m *api.Msg) { m.Config.New = make([]int, 10) }},
}

// P202: of two faults the one whose byte comes first is told; ErrMore behind all of them.
func TestOrder(t *testing.T) {
	for i, first := range faults {
		for _, second := range faults[i:] {
			m := someMsg()
			second.make(&m)
			first.make(&m)
			checkMsg(t, m, first.want)
			if i >= 2 && i <= 5 { // those of the first entry
				checkEntry(t, m.Entries[0], first.want)
			}
			p, e := ParseMsg(append(rawMsg(m), 0))
			checkParsed(t, p, e, m, first.want)
		}
		m := someMsg()
		first.make(&m)
		b := rawMsg(m)
		b[57] = 2 // Yes stands behind the kind, ahead of all else
		want := api.ErrBad
		if i == 0 {
			want = first.want
		}
		p, e := ParseMsg(b)
		checkParsed(t, p, e, m, want)
	}
	for _, f := range faults { // a list of too many entries is refused ahead of what its entries are
		m := someMsg()
		m.Entries = make([]api.Entry, 65)
		m.Entries[0].Kind, m.Config.Old = 5, make([]int, 10)
		f.make(&m)
		want := api.ErrMany
		if m.Kind == 16 {
			want = api.ErrKind
		}
		checkMsg(t, m, want)
	}
}

// P202: a byte that says what may not be is told where it stands, though b ends behind it; ahead of it, b is cut.
func TestFaultAtTheEnd(t *testing.T) {
	entry, msg := rawEntry(someEntry()), rawMsg(someMsg())
	const listAt, entriesAt = 58, 58 + 1 + 3*8
	for _, x := range []struct {
		at   int
		by   byte
		want api.Errno
	}{{24, 0, api.ErrKind}, {24, 16, api.ErrKind}, {57, 2, api.ErrBad}, {listAt, 65, api.ErrMany}, {entriesAt, 65, api.ErrMany}, {entriesAt + 1, 5, api.ErrKind}, {entriesAt + 18, 17, api.ErrLong}, {entriesAt + 21, 10, api.ErrMany}, {entriesAt + 38, 3, api.ErrKind}, {len(msg) - 42, 10, api.ErrMany}, {len(msg) - 25, 10, api.ErrMany}} {
		b := bytes.Clone(msg)
		b[x.at] = x.by
		p, e := ParseMsg(b[:x.at+1])
		checkParsed(t, p, e, api.Msg{}, x.want)
		p, e = ParseMsg(b[:x.at])
		checkParsed(t, p, e, api.Msg{}, api.ErrCut)
		p, e = ParseMsg(b)
		checkParsed(t, p, e, api.Msg{}, x.want)
	}
	for _, x := range []struct {
		at   int
		by   byte
		want api.Errno
	}{{0, 5, api.ErrKind}, {17, 17, api.ErrLong}, {20, 10, api.ErrMany}, {len(entry) - 1, 3, api.ErrKind}} {
		b := bytes.Clone(entry)
		b[x.at] = x.by
		p, e := ParseEntry(b[:x.at+1])
		checkParsed(t, p, e, api.Entry{}, x.want)
	}
}

// P202: SameEntry, SameMsg find each field.
func TestSame(t *testing.T) {
	if !SameEntry(someEntry(), someEntry()) || !SameMsg(someMsg(), someMsg()) || !SameEntry(api.Entry{}, api.Entry{}) || !SameMsg(api.Msg{}, api.Msg{}) {
		t.Error("the same is not the same")
	}
	for i, change := range []func(e *api.Entry){
		func(e *api.Entry) { e.Kind++ }, func(e *api.Entry) { e.Client++ }, func(e *api.Entry) { e.Seq++ }, func(e *api.Entry) { e.Data = "aB" }, func(e *api.Entry) { e.Data += "\x00" },
		func(e *api.Entry) { e.Members[0]++ }, func(e *api.Entry) { e.Members[1]++ }, func(e *api.Entry) { e.Members = e.Members[:1] }, func(e *api.Entry) { slices.Reverse(e.Members) }, func(e *api.Entry) { e.To++ },
	} {
		e, m := someEntry(), someMsg()
		change(&e)
		change(&m.Entries[2])
		if SameEntry(e, someEntry()) || SameEntry(someEntry(), e) || SameMsg(m, someMsg()) || SameMsg(someMsg(), m) {
			t.Errorf("entries: %d", i)
		}
		if !SameEntry(e, e) || !SameMsg(m, m) {
			t.Errorf("entries: %d is not itself", i)
		}
	}
	for i, change := range []func(m *api.Msg){
		func(m *api.Msg) { m.From++ }, func(m *api.Msg) { m.To++ }, func(m *api.Msg) { m.Gen++ }, func(m *api.Msg) { m.Kind++ }, func(m *api.Msg) { m.Term++ }, func(m *api.Msg) { m.Index++ }, func(m *api.Msg) { m.Last++ }, func(m *api.Msg) { m.Commit++ }, func(m *api.Msg) { m.Yes = false },
		func(m *api.Msg) { m.Terms[2]++ }, func(m *api.Msg) { m.Terms = m.Terms[:2] }, func(m *api.Msg) { m.Entries = m.Entries[:2] }, func(m *api.Msg) { m.Entries = append(m.Entries, api.Entry{}) },
		func(m *api.Msg) { m.Config.Old[1]++ }, func(m *api.Msg) { m.Config.Old = nil }, func(m *api.Msg) { m.Config.New[0]++ }, func(m *api.Msg) { m.Config.New = m.Config.New[:2] }, func(m *api.Msg) { m.Config.Old, m.Config.New = m.Config.New, m.Config.Old },
	} {
		m := someMsg()
		change(&m)
		if SameMsg(m, someMsg()) || SameMsg(someMsg(), m) {
			t.Errorf("messages: %d", i)
		}
	}
}

// P202: what may not be encoded may still be the same.
func TestSameOfWrongThings(t *testing.T) {
	e := api.Entry{Kind: 77, Data: strings.Repeat("x", 99), Members: make([]int, 99), To: -1}
	m := api.Msg{Kind: -3, Terms: make([]int, 99), Entries: []api.Entry{e}}
	if !SameEntry(e, e) || !SameMsg(m, m) || SameEntry(e, api.Entry{}) || SameMsg(m, api.Msg{}) {
		t.Error("wrong things")
	}
}

// P2: no list and an empty one are the same.
func TestNoneAndEmpty(t *testing.T) {
	none, empty := api.Entry{Kind: 1}, api.Entry{Kind: 1, Members: []int{}}
	a := api.Msg{Kind: 1, Entries: []api.Entry{none}}
	b := api.Msg{Kind: 1, Entries: []api.Entry{empty}, Terms: []int{}, Config: api.Config{Old: []int{}, New: []int{}}}
	if !SameEntry(none, empty) || !SameMsg(a, b) || !SameMsg(api.Msg{Entries: []api.Entry{}}, api.Msg{}) {
		t.Error("none and empty are not the same")
	}
	x, _ := EncodeMsg(a)
	y, _ := EncodeMsg(b)
	if len(x) == 0 || !bytes.Equal(x, y) {
		t.Errorf("%x, %x", x, y)
	}
}

// P204: what was encoded is parsed as the same.
func TestThereAndBack(t *testing.T) {
	r := rand.New(rand.NewSource(2))
	for range 500 {
		checkEntry(t, anyEntry(r), api.OK)
		checkConfig(t, anyConfig(r), api.OK)
		checkMsg(t, anyMsg(r), api.OK)
	}
	full := api.Msg{Kind: 15, Terms: make([]int, 64), Entries: make([]api.Entry, 64), Config: api.Config{Old: make([]int, 9), New: make([]int, 9)}}
	for i := range full.Entries {
		full.Entries[i] = api.Entry{Kind: 4, Client: -i, Data: strings.Repeat("x", 16), Members: make([]int, 9), To: 2}
	}
	checkMsg(t, full, api.OK)
	if b, e := EncodeMsg(full); e != api.OK || len(b) > api.MaxFrame {
		t.Errorf("a message of %d bytes, %v", len(b), e)
	}
}

// P204: bytes that can be parsed are encoded as the same bytes.
func TestBackAndThere(t *testing.T) {
	r := rand.New(rand.NewSource(3))
	parsed := 0
	for range 20000 {
		b := rawMsg(anyMsg(r))
		switch r.Intn(4) {
		case 0:
			b = rawEntry(anyEntry(r))
		case 1:
			b = rawConfig(anyConfig(r))
		case 2:
			b = make([]byte, r.Intn(120))
		}
		for range r.Intn(4) {
			if len(b) > 0 {
				b[r.Intn(len(b))] = byte(r.Intn(20))
			}
		}
		if x, e := ParseEntry(b); e == api.OK {
			parsed++
			c, e := EncodeEntry(x)
			checkEncoded(t, c, e, b, api.OK)
		}
		if x, e := ParseMsg(b); e == api.OK {
			parsed++
			c, e := EncodeMsg(x)
			checkEncoded(t, c, e, b, api.OK)
		}
		if x, e := ParseConfig(b); e == api.OK {
			parsed++
			c, e := EncodeConfig(x)
			checkEncoded(t, c, e, b, api.OK)
		}
	}
	if parsed < 1000 {
		t.Errorf("only %d of them could be parsed", parsed)
	}
}

// spoil writes over all of a list, its spare room too.
func spoil(l []int) {
	l = l[:cap(l)]
	for i := range l {
		l[i] = -77
	}
}

// P2: what is handed in stays as it was, its spare room too, and what is answered is new memory.
func TestMemory(t *testing.T) {
	row := rawMsg(someMsg())
	b := append(row, "behind"...)[:len(row)]
	m, _ := ParseMsg(b)
	again, _ := ParseMsg(b)
	clear(b[:cap(b)])
	checkParsed(t, m, api.OK, someMsg(), api.OK)
	for _, l := range [][]int{m.Terms, m.Entries[0].Members, m.Entries[1].Members, m.Entries[2].Members, m.Config.Old, m.Config.New} { // none of them is another's, or the other answer's
		before := fmt.Sprint(m)
		kept := slices.Clone(l)
		spoil(l)
		copy(l, kept)
		if fmt.Sprint(m) != before {
			t.Errorf("lists share memory: %v, not %s", m, before)
		}
	}
	checkParsed(t, again, api.OK, someMsg(), api.OK)

	room := []int{1, 2, 3, 4, 5, 6, 7, 8}
	x := someMsg()
	x.Terms, x.Config.Old, x.Config.New, x.Entries[0].Members = room[:2], room[2:4], room[4:6], room[6:7]
	wrong := x
	wrong.Entries = append(slices.Clone(x.Entries), api.Entry{Kind: 9})
	first, _ := EncodeMsg(x)
	second, _ := EncodeMsg(x)
	EncodeMsg(wrong)
	want := bytes.Clone(second)
	clear(first[:cap(first)])
	if !bytes.Equal(second, want) || !slices.Equal(room, []int{1, 2, 3, 4, 5, 6, 7, 8}) {
		t.Errorf("shared or changed: %x, %v", second, room)
	}
	if !reflect.DeepEqual(someMsg().Entries[1:], x.Entries[1:]) {
		t.Errorf("changed: %v", x)
	}
}

// What is wrong is wrapped with the place where it was met.
func TestFlaws(t *testing.T) {
	w := writer{}
	w.entry(api.Entry{Kind: 1, Data: strings.Repeat("x", 17), To: 3})
	if w.err == nil || w.err.Error() != "byte 17: long" {
		t.Errorf("%v", w.err)
	}
	r := reader{b: rawEntry(someEntry())[:30]}
	r.entry()
	if r.err == nil || r.err.Error() != "byte 30: cut" {
		t.Errorf("%v", r.err)
	}
	r = reader{b: append(rawEntry(someEntry())[:20], 10)}
	r.entry()
	if r.err == nil || r.err.Error() != "byte 20: many" {
		t.Errorf("%v", r.err)
	}
	if number(nil) != api.OK || number(w.err) != api.ErrLong {
		t.Errorf("%v, %v", number(nil), number(w.err))
	}
}
