package seal

import (
	"bytes"
	"encoding/binary"
	"math"
	"slices"
	"strconv"
	"testing"

	"synodal/api"
)

// raw are the bytes that say these generations, whatever they are, by the chapter's words.
func raw(l ...api.Generation) []byte {
	b := []byte{byte(len(l))}
	ints := func(numbers ...int) {
		for _, n := range numbers {
			b = binary.BigEndian.AppendUint64(b, uint64(n))
		}
	}
	for _, x := range l {
		ints(x.N, x.Engine, x.Base)
		for _, ids := range [][]int{x.Config.Old, x.Config.New} {
			b = append(b, byte(len(ids)))
			ints(ids...)
		}
	}
	return b
}

// checkLoaded holds what is loaded of what was saved against what saved it.
func checkLoaded(t *testing.T, g *Gens) *Gens {
	t.Helper()
	b := g.Save()
	if !bytes.Equal(b, raw(g.All()...)) {
		t.Fatalf("P1703: Save: %x, not %x", b, raw(g.All()...))
	}
	h, e := Load(b)
	if e != api.OK || h == nil {
		t.Fatalf("P1703: Load of %+v: %v", g.All(), e)
	}
	checkAll(t, h, g.All()...)
	checkFence(t, h, g.Now().N)
	for _, x := range g.All() {
		for _, index := range list(x.Base-1, x.Base, x.Base+1) {
			checkAt(t, h, index, g.At(index))
		}
	}
	if !bytes.Equal(h.Save(), b) {
		t.Errorf("P1703: saved again: %x, not %x", h.Save(), b)
	}
	return h
}

// checkRefused says that bytes are refused, and by what.
func checkRefused(t *testing.T, what string, b []byte, want api.Errno) {
	t.Helper()
	if g, e := Load(b); e != want || g != nil {
		t.Errorf("P1703: %s: Load: %v, not %v", what, e, want)
	}
}

// P1703: the bytes of two generations, written out.
func TestSaveBytes(t *testing.T) {
	g := row(t, gen(0x0102030405060708, api.Raft, 0x1112131415161718, 0, 7), gen(0x0102030405060709, api.Chain, math.MaxInt, 8))
	want := "\x02" +
		"\x01\x02\x03\x04\x05\x06\x07\x08" + "\x00\x00\x00\x00\x00\x00\x00\x01" + "\x11\x12\x13\x14\x15\x16\x17\x18" +
		"\x00" + "\x02\x00\x00\x00\x00\x00\x00\x00\x00\x00\x00\x00\x00\x00\x00\x00\x07" +
		"\x01\x02\x03\x04\x05\x06\x07\x09" + "\x00\x00\x00\x00\x00\x00\x00\x02" + "\x7f\xff\xff\xff\xff\xff\xff\xff" +
		"\x00" + "\x01\x00\x00\x00\x00\x00\x00\x00\x08"
	if b := g.Save(); string(b) != want {
		t.Errorf("P1703: %x, not %x", b, want)
	}
	checkLoaded(t, g)
}

// P1703: Save and Load of one generation, of several, of sixty; Save changes nothing.
func TestSaveAndLoad(t *testing.T) {
	checkLoaded(t, row(t, gen(1, api.Raft, 0, 0)))
	checkLoaded(t, row(t, gen(math.MaxInt, api.Chain, math.MaxInt, upTo(7)...)))
	checkLoaded(t, row(t, three()...))
	for count := range 60 {
		checkLoaded(t, row(t, sixty()[:count+1]...))
	}
	g := row(t, three()...)
	if first := g.Save(); !bytes.Equal(g.Save(), first) {
		t.Errorf("P3: it saves %x behind %x", g.Save(), first)
	}
	checkAll(t, g, three()...)
}

// P1703: what is loaded goes on as what was saved.
func TestLoadGoesOn(t *testing.T) {
	g := row(t, three()...)
	h := checkLoaded(t, g)
	if e := h.Seal(8, api.Raft, members(1)); e != api.ErrArg {
		t.Errorf("P1701: loaded: Seal at its base: %v", e)
	}
	if e := h.Seal(9, api.Chain, members(1)); e != api.OK {
		t.Errorf("P1701: loaded: Seal: %v", e)
	}
	checkAll(t, h, append(three(), gen(7, api.Chain, 9, 1))...)
	checkAll(t, g, three()...)
	h = checkLoaded(t, row(t, sixty()...))
	if e := h.Seal(500, api.Raft, members(1)); e != api.ErrMany {
		t.Errorf("P1701: loaded: one more than sixty: %v", e)
	}
	h = checkLoaded(t, row(t, sixty()[:59]...))
	if e := h.Seal(118, api.Chain, sixty()[59].Config); e != api.OK {
		t.Errorf("P1701: loaded: the sixtieth: %v", e)
	}
	checkAll(t, h, sixty()...)
}

// P1703: bytes that are cut off anywhere are ErrCut; with more behind ErrMore, whatever that is.
func TestLoadCutAndMore(t *testing.T) {
	for _, l := range [][]api.Generation{three()[:1], three(), sixty()} {
		b := raw(l...)
		for cut := range b {
			checkRefused(t, "cut off behind "+strconv.Itoa(cut), b[:cut], api.ErrCut)
		}
		for _, more := range [][]byte{{0}, {1}, {255}, b, b[1:], make([]byte, 1000)} {
			checkRefused(t, strconv.Itoa(len(more))+" more", slices.Concat(b, more), api.ErrMore)
		}
	}
	checkRefused(t, "nil", nil, api.ErrCut)
	checkRefused(t, "nothing", []byte{}, api.ErrCut)
}

// P1703: a count that is another one: 0, 61, 255, and all others.
func TestLoadCount(t *testing.T) {
	checkRefused(t, "none", []byte{0}, api.ErrBad)
	checkRefused(t, "none, and more", []byte{0, 0}, api.ErrMore)
	for _, l := range [][]api.Generation{three()[:1], three(), sixty()} {
		for count := range 256 {
			b := raw(l...)
			b[0] = byte(count)
			switch {
			case count < len(l):
				checkRefused(t, "count "+strconv.Itoa(count), b, api.ErrMore)
			case count > len(l):
				checkRefused(t, "count "+strconv.Itoa(count), b, api.ErrCut)
			}
		}
	}
}

// P1703: more than sixty that are there are such as Seal would not make; that is told behind all that is wrong with the bytes alone.
func TestLoadTooMany(t *testing.T) {
	for _, count := range list(61, 62, 64, 65, 128, 254, 255) {
		l := sixty()
		for k := 60; k < count; k++ {
			l = append(l, gen(k+1, api.Raft, 2*k, 1))
		}
		b, what := raw(l...), strconv.Itoa(count)
		checkRefused(t, what, b, api.ErrBad)
		checkRefused(t, what+", cut off", b[:len(b)-1], api.ErrCut)
		checkRefused(t, what+", the count alone", b[:1], api.ErrCut)
		checkRefused(t, what+", and more", append(b, 0), api.ErrMore)
		l[count-1].Config.Old = upTo(10)
		checkRefused(t, what+", the last one's list too long", raw(l...), api.ErrMany)
	}
}

// P1703: a list that wire refuses is ErrMany, where it is said; it is told ahead of what comes behind, and behind what comes ahead.
func TestLoadMany(t *testing.T) {
	for at := range three() {
		for length := range 256 {
			for _, old := range []bool{true, false} {
				l := three()
				l[at].N = 0 // told last
				if old {
					l[at].Config.Old = make([]int, length)
				} else {
					l[at].Config.New = make([]int, length)
				}
				want := api.ErrBad
				if length > 9 {
					want = api.ErrMany
				}
				what := "generation " + strconv.Itoa(at) + ", " + strconv.Itoa(length) + " members"
				b := raw(l...)
				checkRefused(t, what, b, want)
				said := len(raw(l[:at]...)) + headBytes // where the list's byte is
				if !old {
					said += 1 + intBytes*len(l[at].Config.Old)
				}
				checkRefused(t, what+", cut off ahead of it", b[:said], api.ErrCut)
				if length > 9 {
					checkRefused(t, what+", cut off behind it", b[:said+1], api.ErrMany)
					checkRefused(t, what+", and more", append(b, 0), api.ErrMany)
				} else {
					checkRefused(t, what+", cut off", b[:len(b)-1], api.ErrCut)
					checkRefused(t, what+", and more", append(b, 0), api.ErrMore)
				}
			}
		}
	}
	l := three()
	l[1].Config.Old, l[2].Config.New = upTo(10), upTo(11)
	checkRefused(t, "two lists", raw(l...), api.ErrMany)
}

// P1703: bytes that say generations as neither New nor Seal would make them.
func TestLoadBad(t *testing.T) {
	check := func(what string, turn func(l []api.Generation)) {
		l := three()
		turn(l)
		b := raw(l...)
		checkRefused(t, what, b, api.ErrBad)
		checkRefused(t, what+", cut off", b[:len(b)-1], api.ErrCut)
		checkRefused(t, what+", and more", append(b, 0), api.ErrMore)
	}
	for at := range three() {
		name := "generation " + strconv.Itoa(at) + ": "
		for _, n := range numbers {
			if n != three()[at].N {
				check(name+"N "+strconv.Itoa(n), func(l []api.Generation) { l[at].N = n })
			}
			if n != api.Raft && n != api.Chain {
				check(name+"engine "+strconv.Itoa(n), func(l []api.Generation) { l[at].Engine = n })
			}
		}
		for _, x := range configs {
			if x.want != api.OK && len(x.c.New) <= 9 {
				check(name+"another configuration", func(l []api.Generation) { l[at].Config = x.c })
			}
		}
	}
	for _, base := range list(math.MinInt, -1, 7, 8, math.MaxInt) {
		check("base "+strconv.Itoa(base)+" at first", func(l []api.Generation) { l[0].Base = base })
	}
	for _, base := range list(math.MinInt, -1, 0, 2, 3, 8, 9, math.MaxInt) {
		check("base "+strconv.Itoa(base)+" in the middle", func(l []api.Generation) { l[1].Base = base })
	}
	for _, base := range list(math.MinInt, -1, 0, 3, 6, 7) {
		check("base "+strconv.Itoa(base)+" at last", func(l []api.Generation) { l[2].Base = base })
	}
	check("two changed about", func(l []api.Generation) { l[1], l[2] = l[2], l[1] })
	check("one twice", func(l []api.Generation) { l[2] = l[1] })
	check("from another number on", func(l []api.Generation) { l[0].N, l[1].N = 5, 6 })
	check("from 0 on", func(l []api.Generation) { l[0].N, l[1].N, l[2].N = 0, 1, 2 })
	check("from the least on", func(l []api.Generation) { l[0].N, l[1].N, l[2].N = math.MinInt, math.MinInt+1, math.MinInt+2 })
}

// P1703: one generation alone may be of any number and base that New takes.
func TestLoadOfOne(t *testing.T) {
	for _, n := range list(1, 2, 60, 61, 1<<40, math.MaxInt) {
		for _, base := range list(0, 1, 64, 65, math.MaxInt) {
			checkLoaded(t, row(t, gen(n, api.Chain, base, 3)))
		}
	}
}

// model tells by the chapter's words alone what Load answers: of bytes that can be read the generations, or the error.
func model(b []byte) ([]api.Generation, api.Errno) {
	if len(b) == 0 {
		return nil, api.ErrCut
	}
	l := make([]api.Generation, b[0])
	b = b[1:]
	integer := func(n *int) bool {
		if len(b) < 8 {
			return false
		}
		*n, b = int(binary.BigEndian.Uint64(b)), b[8:]
		return true
	}
	for i := range l {
		x := &l[i]
		for _, n := range []*int{&x.N, &x.Engine, &x.Base} {
			if !integer(n) {
				return nil, api.ErrCut
			}
		}
		for _, ids := range []*[]int{&x.Config.Old, &x.Config.New} {
			if len(b) == 0 {
				return nil, api.ErrCut
			}
			if b[0] > 9 {
				return nil, api.ErrMany
			}
			*ids, b = make([]int, b[0]), b[1:]
			for k := range *ids {
				if !integer(&(*ids)[k]) {
					return nil, api.ErrCut
				}
			}
		}
	}
	if len(b) > 0 {
		return nil, api.ErrMore
	}
	if !mayBe(l) {
		return nil, api.ErrBad
	}
	return l, api.OK
}

// mayBe says whether New and Seal would make these, one behind the other.
func mayBe(l []api.Generation) bool {
	if len(l) == 0 || len(l) > 60 || l[0].N < 1 || l[0].Base < 0 {
		return false
	}
	for i, x := range l {
		if i > 0 && (x.N != l[i-1].N+1 || x.Base <= l[i-1].Base) {
			return false
		}
		ids := x.Config.New
		if x.Engine != 1 && x.Engine != 2 || len(x.Config.Old) > 0 || len(ids) == 0 || len(ids) > 7 || !slices.IsSorted(ids) || ids[0] < 0 || ids[len(ids)-1] > 8 {
			return false
		}
		if slices.ContainsFunc(upTo(9), func(id int) bool {
			return slices.Index(ids, id) >= 0 && slices.Contains(ids[slices.Index(ids, id)+1:], id)
		}) {
			return false
		}
	}
	return true
}

// checkModel holds what Load answers against the model.
func checkModel(t *testing.T, b []byte) api.Errno {
	t.Helper()
	want, wantErrno := model(b)
	g, e := Load(b)
	if e != wantErrno || (g == nil) != (e != api.OK) {
		t.Fatalf("P1703: Load of %x: %v, not %v", b, e, wantErrno)
	}
	if e == api.OK {
		checkAll(t, g, want...)
		if !bytes.Equal(g.Save(), b) {
			t.Fatalf("P1703: what is loaded of %x is saved as %x", b, g.Save())
		}
	}
	return e
}

// P1703: each byte turned to each other one: refused, or taken and saved as the same bytes again.
func TestLoadTurned(t *testing.T) {
	answers := map[api.Errno]int{}
	for _, l := range [][]api.Generation{three()[1:2], three(), {gen(1, 1, 0, 0), gen(2, 2, 300, upTo(7)...), gen(3, 1, 1<<40, 8)}} {
		b := raw(l...)
		for at := range b {
			for x := range 256 {
				turned := slices.Clone(b)
				turned[at] = byte(x)
				answers[checkModel(t, turned)]++
			}
		}
	}
	for _, e := range []api.Errno{api.OK, api.ErrCut, api.ErrMany, api.ErrMore, api.ErrBad} {
		if answers[e] < 40 {
			t.Errorf("hardly asked: %v %d times", e, answers[e])
		}
	}
}

// damaged are bytes with something done to them at some place.
func damaged(x *picks, b []byte) []byte {
	at := x.next(len(b) + 1)
	switch x.next(6) {
	case 0:
		return b[:at]
	case 1:
		return slices.Insert(b, at, byte(x.next(256)))
	case 2:
		return append(b, b[:at]...)
	case 3:
		return slices.Delete(b, at/2, at)
	case 4:
		b[at%max(1, len(b))] = byte(x.next(12))
	}
	return b
}

// P1, P1703: bytes of drawn generations, whole and damaged, against the model.
func TestLoadDrawn(t *testing.T) {
	answers := map[api.Errno]int{}
	for seed := range 20000 {
		x := picks(seed)
		b := raw(drawnRow(&x)...)
		for n := x.next(3); n > 0 && len(b) > 0; n-- {
			b = damaged(&x, b)
		}
		answers[checkModel(t, b)]++
	}
	for _, e := range []api.Errno{api.OK, api.ErrCut, api.ErrMany, api.ErrMore, api.ErrBad} {
		if answers[e] < 100 {
			t.Errorf("hardly asked: %v %d times", e, answers[e])
		}
	}
}
