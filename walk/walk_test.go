package walk_test

import (
	"math"
	"slices"
	"testing"

	"dovecote/api"
	"dovecote/walk"
)

// Numbers far outside of all that may be.
var far = []int{math.MinInt, math.MinInt + 1, -(1 << 62), -(1 << 32), -65537, -4097, -4096, -17, -2, 3, 4097, 4098, 65536, 1<<31 - 1, 1 << 31, 1<<32 - 1, 1 << 32, 1<<32 + 1, 1 << 62, math.MaxInt - 1, math.MaxInt}

// thing is what is laid into a space: an object with its fields, or a filler.
type thing struct {
	h api.Head
	f []uint64
}

// object is one whose fields are all scalars, but those that are told.
func object(tag int, pointers uint64, fields ...uint64) thing {
	return thing{api.Head{Tag: tag, Len: len(fields), Map: pointers}, fields}
}

// leads is an object whose fields are all pointers.
func leads(to ...uint64) thing { return object(1, 1<<len(to)-1, to...) }

// plain is an object of so many scalars, all 0.
func plain(fields int) thing { return object(2, 0, make([]uint64, fields)...) }

// gap is a filler of so many words.
func gap(words int) thing { return thing{h: api.Head{Tag: 255, Len: words - 1}} }

// address is the measure: told by whole numbers, not by the layers below. So are all measures here.
func address(space, at int) uint64 { return uint64(space+1)*4294967296 + uint64(at) }

// first is a head's word.
func first(h api.Head) uint64 {
	return uint64(h.Tag)*72057594037927936 + uint64(h.Len)*4294967296 + h.Map
}

// length is how many words a right head tells.
func length(h api.Head) int {
	if h.Tag == 255 {
		return h.Len + 1
	}
	return h.Len + 2
}

// marked is memory in which no two words are the same, none is 0, and none is a head's.
func marked(words int) api.Mem {
	m := api.Mem{Words: words}
	for space := range 2 {
		for at := range words {
			m.Sp[space] = append(m.Sp[space], uint64(space)<<63+uint64(1000+at))
		}
	}
	return m
}

// twice is memory once more, which shares nothing with it.
func twice(m api.Mem) api.Mem {
	for space, l := range m.Sp {
		m.Sp[space] = slices.Clone(l)
	}
	return m
}

// with is memory with things laid side by side from an address on (into m itself), and the place behind them.
func with(m api.Mem, space, at int, l ...thing) (api.Mem, int) {
	for _, x := range l {
		words := m.Sp[space][at:min(at+length(x.h), m.Words)]
		words[0] = first(x.h)
		if x.h.Tag != 255 {
			for i := range words[1:] {
				words[1+i] = 0
			}
			copy(words[min(2, len(words)):], x.f)
		}
		at += length(x.h)
	}
	return m, at
}

// laid is memory with things laid side by side from the beginning of a space on.
func laid(words, space int, l ...thing) api.Mem {
	m, _ := with(marked(words), space, 0, l...)
	return m
}

// mixed are words all over, the same ones each time, of all lengths.
func mixed(n int, seed uint64) []uint64 {
	var l []uint64
	for i := range n {
		seed = seed*6364136223846793005 + 1442695040888963407
		l = append(l, seed>>(i%64))
	}
	return l
}

// at is what chapter 5's At answers.
func at(m api.Mem, a uint64) (api.Head, api.Errno) {
	space, place := int(a/4294967296)-1, int(a%4294967296)
	if a >= 3*4294967296 || space < 0 || place >= m.Words {
		return api.Head{}, api.ErrSpace
	}
	w := m.Sp[space][place]
	h := api.Head{Tag: int(w / 72057594037927936), Len: int(w / 4294967296 % 16777216), Map: w % 4294967296}
	switch {
	case h.Tag == 0 || h.Tag > 200 && h.Tag != 255, h.Tag != 255 && h.Len > 16, h.Len > 65535:
		return api.Head{}, api.ErrForm
	case h.Tag == 255 && h.Map != 0, h.Tag != 255 && h.Map/(1<<h.Len) != 0:
		return api.Head{}, api.ErrForm
	case place+length(h) > m.Words:
		return api.Head{}, api.ErrSpace
	}
	return h, api.OK
}

// lead are an object's pointers.
func lead(m api.Mem, a uint64) []uint64 {
	var l []uint64
	h, _ := at(m, a)
	for i := range h.Len {
		if h.Tag != 255 && h.Map/(1<<i)%2 == 1 {
			l = append(l, m.Sp[a/4294967296-1][int(a%4294967296)+2+i])
		}
	}
	return l
}

// isObject: is there one at an address, and no filler?
func isObject(m api.Mem, a uint64) bool {
	h, e := at(m, a)
	return e == api.OK && h.Tag != 255
}

// all is what All must answer.
func all(m api.Mem, space, limit int) ([]uint64, api.Errno) {
	if space != 0 && space != 1 || limit < 0 || limit > m.Words {
		return nil, api.ErrArg
	}
	var l []uint64
	for place := 0; place < limit; {
		h, e := at(m, address(space, place))
		if e != api.OK {
			return nil, e
		}
		l = append(l, address(space, place))
		if place += length(h); place > limit {
			return nil, api.ErrForm
		}
	}
	return l, api.OK
}

// objects is what Objects must answer.
func objects(m api.Mem, space, limit int) ([]uint64, api.Errno) {
	l, e := all(m, space, limit)
	return slices.DeleteFunc(l, func(a uint64) bool { return !isObject(m, a) }), e
}

// sound is what Sound must answer.
func sound(m api.Mem, space, limit int) bool {
	l, e := objects(m, space, limit)
	for _, a := range l {
		for _, b := range lead(m, a) {
			if b != 0 && !slices.Contains(l, b) {
				return false
			}
		}
	}
	return e == api.OK
}

// reach is what Reach must answer: what is still to be told lies on a pile, the next one above.
func reach(m api.Mem, roots []uint64) []uint64 {
	var l []uint64
	pile := slices.Clone(roots)
	slices.Reverse(pile)
	told := map[uint64]bool{}
	for len(pile) > 0 {
		a := pile[len(pile)-1]
		pile = pile[:len(pile)-1]
		if told[a] || !isObject(m, a) {
			continue
		}
		told[a] = true
		l = append(l, a)
		next := lead(m, a)
		slices.Reverse(next)
		pile = append(pile, next...)
	}
	return l
}

// unchanged holds what was handed in against what it was.
func unchanged(t *testing.T, m, before api.Mem) {
	t.Helper()
	if m.Words != before.Words || !slices.Equal(m.Sp[0], before.Sp[0]) || !slices.Equal(m.Sp[1], before.Sp[1]) {
		t.Fatalf("what was handed in is changed: %v, it was %v", m, before)
	}
}

// wantAll holds All, Objects and Sound against the measure.
func wantAll(t *testing.T, m api.Mem, space, limit int) {
	t.Helper()
	before := twice(m)
	want, f := all(before, space, limit)
	if got, e := walk.All(m, space, limit); e != f || !slices.Equal(got, want) {
		t.Fatalf("All %d, %d: got %#x, %d, want %#x, %d", space, limit, got, e, want, f)
	}
	want, f = objects(before, space, limit)
	if got, e := walk.Objects(m, space, limit); e != f || !slices.Equal(got, want) {
		t.Fatalf("Objects %d, %d: got %#x, %d, want %#x, %d", space, limit, got, e, want, f)
	}
	is := sound(before, space, limit)
	if got := walk.Sound(m, space, limit); got != is {
		t.Fatalf("Sound %d, %d: got %v", space, limit, got)
	}
	unchanged(t, m, before)
}

// wantWords holds Words against the measure.
func wantWords(t *testing.T, m api.Mem, l []uint64) {
	t.Helper()
	before, was := twice(m), slices.Clone(l)
	var want [2]int
	for _, a := range l {
		if h, e := at(m, a); e == api.OK && h.Tag == 255 {
			want[1] += length(h)
		} else if e == api.OK {
			want[0] += length(h)
		}
	}
	if n, k := walk.Words(m, l); n != want[0] || k != want[1] {
		t.Fatalf("Words of %#x: got %d, %d, want %d", l, n, k, want)
	}
	unchanged(t, m, before)
	if !slices.Equal(l, was) {
		t.Fatalf("Words: what was handed in is %#x, it was %#x", l, was)
	}
}

// wantReach holds Reach against the measure; the roots stand in a longer row, of which nothing may change.
func wantReach(t *testing.T, m api.Mem, roots ...uint64) []uint64 {
	t.Helper()
	before := twice(m)
	row := append(slices.Clone(roots), 91, 92, 93)
	was := slices.Clone(row)
	want := reach(before, roots)
	got := walk.Reach(m, row[:len(roots)])
	if !slices.Equal(got, want) {
		t.Fatalf("Reach of %#x: got %#x, want %#x", roots, got, want)
	}
	unchanged(t, m, before)
	if !slices.Equal(row, was) {
		t.Fatalf("Reach: what was handed in is %#x, it was %#x", row, was)
	}
	return got
}

// limits are all numbers up to one behind the last word, and numbers far outside.
func limits(words int) []int {
	l := []int{words + 2, 2 * words, -1}
	for n := range words + 2 {
		l = append(l, n)
	}
	return append(l, far...)
}

// strange are addresses that aren't there in memory of so many words, and such as are no address.
func strange(words int) []uint64 {
	l := []uint64{0, 1, 3, uint64(words), 0xffffffff, address(2, 0), address(2, 3), address(3, 0), 1 << 63, 1<<63 + address(0, 0), 1<<40 + address(1, 3), math.MaxUint64, math.MaxUint64 - 1<<32}
	for space := range 2 {
		for _, place := range []int{words, words + 1, 2 * words, 4096, 4097, 1 << 31, 1<<32 - 2, 1<<32 - 1} {
			l = append(l, address(space, place))
		}
	}
	return l
}

// everywhere are the addresses of all places of both spaces, and strange ones.
func everywhere(words int) []uint64 {
	l := strange(words)
	for space := range 2 {
		for place := range words {
			l = append(l, address(space, place))
		}
	}
	return l
}

// samples are spaces of all kinds, most of them with something wrong in it, in memory of 16 words.
func samples() [][]thing {
	here, there := address(0, 0), address(1, 0)
	return [][]thing{
		{},
		{gap(1)}, {gap(2)}, {gap(16)}, {gap(17)}, {gap(65536)}, {gap(3), gap(1), gap(12)},
		{plain(0)}, {plain(14)}, {plain(15)}, {plain(16)}, {plain(0), plain(0), plain(0), plain(0), plain(0), plain(0), plain(0), plain(0)},
		{plain(1), gap(2)}, {gap(2), plain(1)}, {plain(1), gap(2), plain(2), gap(1), plain(0), gap(4)},
		{gap(13), plain(1)}, {gap(14), plain(1)}, {gap(14), plain(0)}, {gap(15), plain(0)}, {gap(15), gap(1)}, {gap(15), gap(2)},
		{plain(12), gap(2)}, {plain(12), gap(3)}, {plain(3), plain(3), plain(4)}, {plain(3), plain(3), plain(5)},
		{leads(0)}, {leads(here)}, {leads(there)}, {leads(here, there)}, {leads(address(0, 3)), plain(1)}, {leads(address(0, 3)), gap(2)},
		{leads(address(0, 1)), plain(2)}, {leads(address(0, 4)), plain(2)}, {leads(1), plain(2)}, {object(1, 0, here, there, 5)},
		{leads(address(0, 3)), leads(address(0, 7)), gap(1), plain(0), gap(4), plain(1)},
	}
}

// P6.1: the example: an object of 1 field, then a filler of 2 words: All up to 5 tells 0 and 3; Objects 0.
func TestExample(t *testing.T) {
	m := marked(16)
	m.Sp[0][0], m.Sp[0][3] = 0x01000001_00000000, 0xff000001_00000000
	if l, e := walk.All(m, 0, 5); e != api.OK || !slices.Equal(l, []uint64{0x1_00000000, 0x1_00000003}) {
		t.Errorf("All: got %#x, %d", l, e)
	}
	if l, e := walk.Objects(m, 0, 5); e != api.OK || !slices.Equal(l, []uint64{0x1_00000000}) {
		t.Errorf("Objects: got %#x, %d", l, e)
	}
	if n, k := walk.Words(m, []uint64{0x1_00000000, 0x1_00000003}); n != 3 || k != 2 {
		t.Errorf("Words: got %d, %d", n, k)
	}
}

// P6.1: spaces and limits at the edges and far outside, in memory of 16 to 4096 words, of nothing else.
func TestArguments(t *testing.T) {
	for _, words := range []int{16, 17, 100, 4096} {
		for space := range 2 {
			m := laid(words, space, gap(words))
			for _, s := range append([]int{-1, 0, 1, 2}, far...) {
				for _, limit := range append([]int{-1, 0, 1, words - 1, words, words + 1}, far...) {
					wantAll(t, m, s, limit)
				}
			}
		}
	}
}

// P6.1: which error is named first, and that no list is told beside it.
func TestErrors(t *testing.T) {
	m := laid(16, 1, plain(1), gap(2), plain(2), gap(3))
	m, _ = with(m, 1, 13, plain(2))
	first := []uint64{address(1, 0), address(1, 3)}
	for _, x := range []struct {
		space, limit int
		l            []uint64
		e            api.Errno
	}{
		{1, 0, nil, api.OK},
		{0, 0, nil, api.OK},
		{0, 1, nil, api.ErrForm},
		{1, 3, first[:1], api.OK},
		{1, 5, first, api.OK},
		{1, 4, nil, api.ErrForm},
		{1, 2, nil, api.ErrForm},
		{1, 1, nil, api.ErrForm},
		{1, 12, append(slices.Clone(first), address(1, 5), address(1, 9)), api.OK},
		{1, 13, nil, api.ErrForm},  // no head at 12
		{1, 16, nil, api.ErrForm},  // that comes ahead of what is too long at 13
		{1, 17, nil, api.ErrArg},   // one more than there are
		{1, -1, nil, api.ErrArg},   // one less than none
		{-1, 0, nil, api.ErrArg},   // no space, of which nothing is asked for
		{2, 0, nil, api.ErrArg},    // nor here
		{-1, -1, nil, api.ErrArg},  // both
		{2, 17, nil, api.ErrArg},   // both
		{0, 16, nil, api.ErrForm},  // nothing there
		{0, 17, nil, api.ErrArg},   // nothing there, and too far
		{-2, 16, nil, api.ErrArg},  // no space
		{256, 16, nil, api.ErrArg}, // no space
	} {
		if l, e := walk.All(m, x.space, x.limit); e != x.e || !slices.Equal(l, x.l) {
			t.Errorf("All(%d, %d): got %#x, %d, want %#x, %d", x.space, x.limit, l, e, x.l, x.e)
		}
		if l, e := walk.Objects(m, x.space, x.limit); e != x.e || e != api.OK && len(l) != 0 {
			t.Errorf("Objects(%d, %d): got %#x, %d, want error %d", x.space, x.limit, l, e, x.e)
		}
		wantAll(t, m, x.space, x.limit)
	}
}

// P6.1: what is too long for the space is ErrSpace, even where it is too long for the limit, too; what is too long for the limit alone is ErrForm.
func TestTooLong(t *testing.T) {
	for _, x := range []struct {
		l     []thing
		limit int
		e     api.Errno
	}{
		{[]thing{gap(16)}, 16, api.OK},
		{[]thing{gap(17)}, 16, api.ErrSpace},
		{[]thing{gap(17)}, 1, api.ErrSpace},
		{[]thing{gap(17)}, 0, api.OK},
		{[]thing{gap(16)}, 15, api.ErrForm},
		{[]thing{plain(14)}, 16, api.OK},
		{[]thing{plain(15)}, 16, api.ErrSpace},
		{[]thing{plain(15)}, 15, api.ErrSpace},
		{[]thing{plain(14)}, 15, api.ErrForm},
		{[]thing{gap(15), plain(0)}, 16, api.ErrSpace},
		{[]thing{gap(15), plain(0)}, 15, api.OK},
		{[]thing{gap(14), plain(0)}, 16, api.OK},
		{[]thing{gap(14), plain(0)}, 15, api.ErrForm},
		{[]thing{gap(14), plain(0)}, 14, api.OK},
		{[]thing{plain(1), gap(13)}, 16, api.OK},
		{[]thing{plain(1), gap(14)}, 16, api.ErrSpace},
		{[]thing{plain(1), gap(14)}, 4, api.ErrSpace},
		{[]thing{plain(1), gap(13)}, 4, api.ErrForm},
		{[]thing{plain(1), gap(65536)}, 4, api.ErrSpace},
	} {
		for space := range 2 {
			m := laid(16, space, x.l...)
			if _, e := walk.All(m, space, x.limit); e != x.e {
				t.Errorf("All of %+v up to %d: got %d, want %d", x.l, x.limit, e, x.e)
			}
			if _, e := walk.Objects(m, space, x.limit); e != x.e {
				t.Errorf("Objects of %+v up to %d: got %d, want %d", x.l, x.limit, e, x.e)
			}
			wantAll(t, m, space, x.limit)
		}
	}
}

// P6.1: all samples, with all limits: where something begins, one word behind, where it ends, amid its words.
func TestLimits(t *testing.T) {
	for _, l := range samples() {
		for space := range 2 {
			for _, words := range []int{16, 20} {
				m := laid(words, space, l...)
				for _, limit := range limits(words) {
					for s := -1; s <= 2; s++ {
						wantAll(t, m, s, limit)
					}
				}
			}
		}
	}
}

// P6.1: a word that is no head's ahead of the limit, at it and behind it; what stands amid an object's words doesn't matter.
func TestNoHead(t *testing.T) {
	l := []thing{plain(1), gap(3), plain(2), gap(1), plain(0), gap(3)}
	for _, w := range []uint64{0, 1, 1 << 56 >> 1, 0x01000000_00000001, 0x01000011_00000000, 0xc9000000_00000000, 0xfe000000_00000000, 0xff010000_00000000, 0xff000000_00000001, math.MaxUint64, address(0, 0)} {
		for place := range 16 {
			for space := range 2 {
				m := laid(16, space, l...)
				m.Sp[space][place] = w
				for limit := range 17 {
					wantAll(t, m, space, limit)
				}
			}
		}
	}
}

// P6.1: a space of 4096 words, of as many fillers, of objects without fields, and of one filler.
func TestGreatSpace(t *testing.T) {
	fillers, small := slices.Repeat([]thing{gap(1)}, 4096), slices.Repeat([]thing{plain(0)}, 2048)
	for _, l := range [][]thing{fillers, small, {gap(4096)}, {gap(4097)}, slices.Concat(small[:1000], fillers[:2096])} {
		for space := range 2 {
			m := laid(4096, space, l...)
			for _, limit := range []int{0, 1, 2, 1999, 2000, 2001, 4094, 4095, 4096, 4097} {
				wantAll(t, m, space, limit)
				wantAll(t, m, 1-space, limit)
			}
			told, _ := walk.All(m, space, 4096)
			wantWords(t, m, told)
		}
	}
}

// P6.1: words of no addresses, of such as are no object's, of fillers, and of the same address twice.
func TestWords(t *testing.T) {
	m := laid(16, 0, plain(3), gap(2), gap(4), plain(0))
	m, _ = with(m, 1, 2, gap(1), plain(2), gap(5), plain(16))
	object, other, filler, one := address(0, 0), address(1, 3), address(0, 5), address(1, 2)
	for _, x := range []struct {
		l    []uint64
		n, k int
	}{
		{nil, 0, 0},
		{[]uint64{}, 0, 0},
		{[]uint64{0}, 0, 0},
		{strange(16), 0, 0},
		{[]uint64{object}, 5, 0},
		{[]uint64{filler}, 0, 2},
		{[]uint64{one}, 0, 1},
		{[]uint64{object, other}, 9, 0},
		{[]uint64{other, filler, object, one}, 9, 3},
		{[]uint64{object, object}, 10, 0},
		{[]uint64{filler, filler, filler}, 0, 6},
		{[]uint64{object, filler, object, filler}, 10, 4},
		{[]uint64{address(0, 1), address(0, 2), address(1, 0), address(1, 4)}, 0, 0}, // no heads
		{[]uint64{address(1, 12)}, 0, 0},                                             // its words aren't there
		{[]uint64{address(1, 12), object, 0, 7, address(2, 0)}, 5, 0},
	} {
		if n, k := walk.Words(m, x.l); n != x.n || k != x.k {
			t.Errorf("Words(%#x): got %d, %d, want %d, %d", x.l, n, k, x.n, x.k)
		}
		wantWords(t, m, x.l)
	}
	for _, a := range everywhere(16) {
		wantWords(t, m, []uint64{a})
		wantWords(t, m, []uint64{a, object, a})
	}
	wantWords(t, m, everywhere(16))
}

// P6.2: pointers that lead to an object, to a filler, amid an object's words, to the other space, behind the limit, and nowhere.
func TestSound(t *testing.T) {
	one := func(to uint64) []thing {
		return []thing{object(3, 2, 9, to), plain(1), gap(2), plain(0), plain(1)} // at 0, 4, 7, 9, 11; up to 14
	}
	for _, x := range []struct {
		to   uint64
		up11 bool // up to 11
		up14 bool
	}{
		{0, true, true},
		{address(0, 0), true, true},
		{address(0, 4), true, true},
		{address(0, 9), true, true},
		{address(0, 11), false, true},
		{address(0, 7), false, false},
		{address(0, 8), false, false},
		{address(0, 1), false, false},
		{address(0, 5), false, false},
		{address(0, 10), false, false},
		{address(0, 14), false, false},
		{address(0, 15), false, false},
		{address(0, 16), false, false},
		{address(1, 0), false, false},
		{address(1, 4), false, false},
		{address(1, 7), false, false},
		{1, false, false},
		{4, false, false},
		{address(2, 4), false, false},
		{1<<63 + address(0, 4), false, false},
		{math.MaxUint64, false, false},
	} {
		for _, m := range []api.Mem{laid(16, 0, one(x.to)...), twins(one(x.to))} {
			for limit, want := range map[int]bool{11: x.up11, 14: x.up14, 0: true, 10: false, 15: false, 17: false, -1: false} {
				if got := walk.Sound(m, 0, limit); got != want {
					t.Errorf("Sound up to %d, pointer %#x: got %v", limit, x.to, got)
				}
			}
			for _, limit := range limits(16) {
				wantAll(t, m, 0, limit)
				wantAll(t, m, 1, limit)
			}
		}
	}
}

// twins is memory whose spaces both have the same things.
func twins(l []thing) api.Mem {
	m, _ := with(laid(16, 0, l...), 1, 0, l...)
	return m
}

// P6.2: amid an object's words a word may look like a head: there is no object that a pointer of a sound space may lead to.
func TestSoundAmidWords(t *testing.T) {
	head := first(api.Head{Tag: 1, Len: 1})
	m := laid(16, 1, leads(address(1, 5)), object(2, 0, head, 0, 0), gap(8))
	if !isObject(m, address(1, 5)) {
		t.Fatal("the measure is wrong")
	}
	if walk.Sound(m, 1, 16) {
		t.Error("Sound, with a pointer amid an object's words")
	}
	wantAll(t, m, 1, 16)
	if got := wantReach(t, m, address(1, 0)); !slices.Equal(got, []uint64{address(1, 0), address(1, 5)}) {
		t.Errorf("Reach: got %#x", got)
	}
}

// P6.2: scalar fields that look like addresses lead nowhere, be these wrong or right.
func TestScalars(t *testing.T) {
	for _, w := range append(everywhere(16), first(api.Head{Tag: 1, Len: 1})) {
		m := laid(16, 0, object(1, 0, w, w), object(1, 5, 0, w, 0), gap(7))
		if !walk.Sound(m, 0, 16) {
			t.Fatalf("Sound, with the scalar %#x: got false", w)
		}
		wantAll(t, m, 0, 16)
		if got := wantReach(t, m, address(0, 4)); !slices.Equal(got, []uint64{address(0, 4)}) {
			t.Fatalf("Reach, with the scalar %#x: got %#x", w, got)
		}
	}
}

// P6.2: each of an object's fields, and no other, is a pointer as its head tells; objects of 16 fields.
func TestEachField(t *testing.T) {
	for i := range 16 {
		fields := make([]uint64, 16)
		fields[i] = address(0, 18)
		for _, pointers := range []uint64{1 << i, 0xffff, 0xffff - 1<<i, 0} {
			m := laid(40, 0, object(9, pointers, fields...), plain(2))
			is := pointers>>i&1 == 1
			if got := wantReach(t, m, address(0, 0)); (len(got) == 2) != is {
				t.Fatalf("Reach by field %d of %#x: got %#x", i, pointers, got)
			}
			if got := walk.Sound(m, 0, 18); got != !is {
				t.Fatalf("Sound by field %d of %#x: got %v", i, pointers, got)
			}
			wantAll(t, m, 0, 18)
			wantAll(t, m, 0, 22)
		}
	}
}

// P6.2: the word of an object's twin leads nowhere.
func TestTwinLeadsNowhere(t *testing.T) {
	m := laid(16, 0, leads(0), plain(1), gap(10))
	for _, w := range everywhere(16) {
		m.Sp[0][1] = w
		if !walk.Sound(m, 0, 16) {
			t.Fatalf("Sound with the twin %#x: got false", w)
		}
		if got := wantReach(t, m, address(0, 0)); len(got) != 1 {
			t.Fatalf("Reach with the twin %#x: got %#x", w, got)
		}
	}
}

// P6.2: roots that are 0, no address, a filler's, or twice the same.
func TestRoots(t *testing.T) {
	m := laid(16, 0, plain(1), gap(2), leads(address(1, 2)))
	m, _ = with(m, 1, 2, plain(3), gap(1))
	a, b, c := address(0, 0), address(0, 5), address(1, 2)
	for _, x := range []struct{ roots, want []uint64 }{
		{nil, nil},
		{[]uint64{}, nil},
		{[]uint64{0}, nil},
		{strange(16), nil},
		{[]uint64{address(0, 3)}, nil},                // a filler
		{[]uint64{address(1, 7)}, nil},                // a filler of one word
		{[]uint64{address(0, 1), address(1, 0)}, nil}, // no heads
		{[]uint64{a, a, a}, []uint64{a}},              // twice the same
		{[]uint64{0, a, 0, address(0, 3), a}, []uint64{a}},
		{[]uint64{b}, []uint64{b, c}},
		{[]uint64{c, b}, []uint64{c, b}},
		{[]uint64{b, c}, []uint64{b, c}},
		{[]uint64{b, a}, []uint64{b, c, a}},
		{[]uint64{a, b}, []uint64{a, b, c}},
		{[]uint64{a, c, b, c, a}, []uint64{a, c, b}},
	} {
		if got := wantReach(t, m, x.roots...); !slices.Equal(got, x.want) {
			t.Errorf("Reach(%#x): got %#x, want %#x", x.roots, got, x.want)
		}
	}
	for _, a := range everywhere(16) {
		wantReach(t, m, a)
		wantReach(t, m, a, b, a)
		wantReach(t, m, b, a)
	}
	wantReach(t, m, everywhere(16)...)
}

// P6.2: each one is followed by what its pointers lead to, ahead of the next one.
func TestOrder(t *testing.T) {
	at := func(i int) uint64 { return address(0, 4*i) }
	// 0 leads to 1 and 2, 1 to 3 and 4, 2 to 4 and 5, 4 to 6 and 0; 7 to 6 and 8.
	m := laid(64, 0, leads(at(1), at(2)), leads(at(3), at(4)), leads(at(4), at(5)), plain(2), leads(at(6), at(0)), plain(2), plain(2), leads(at(6), at(8)), plain(2))
	for _, x := range []struct{ roots, want []int }{
		{[]int{0}, []int{0, 1, 3, 4, 6, 2, 5}},
		{[]int{1}, []int{1, 3, 4, 6, 0, 2, 5}},
		{[]int{2}, []int{2, 4, 6, 0, 1, 3, 5}},
		{[]int{5, 0}, []int{5, 0, 1, 3, 4, 6, 2}},
		{[]int{0, 5}, []int{0, 1, 3, 4, 6, 2, 5}},
		{[]int{7, 0}, []int{7, 6, 8, 0, 1, 3, 4, 2, 5}},
		{[]int{0, 7}, []int{0, 1, 3, 4, 6, 2, 5, 7, 8}},
		{[]int{8, 6, 7, 3}, []int{8, 6, 7, 3}},
		{[]int{3, 2}, []int{3, 2, 4, 6, 0, 1, 5}},
	} {
		var roots, want []uint64
		for _, i := range x.roots {
			roots = append(roots, at(i))
		}
		for _, i := range x.want {
			want = append(want, at(i))
		}
		if got := wantReach(t, m, roots...); !slices.Equal(got, want) {
			t.Errorf("Reach of %d: got %#x, want %#x", x.roots, got, want)
		}
	}
	if !walk.Sound(m, 0, 36) || walk.Sound(m, 0, 32) {
		t.Error("Sound")
	}
}

// P6.2: objects that lead to themselves, to one another in a ring, and to one object by two ways.
func TestRings(t *testing.T) {
	for space := range 2 {
		at := func(i int) uint64 { return address(space, 4*i) }
		for _, l := range [][]thing{
			{leads(at(0), at(0))},
			{leads(at(0), at(1)), leads(at(1), at(0))},
			{leads(at(1), 0), leads(at(2), 0), leads(at(0), 0)},
			{leads(at(1), at(2)), leads(at(3), 0), leads(at(3), 0), leads(at(0), at(3))},
			{leads(at(3), at(2)), leads(at(2), at(2)), leads(at(1), 0), leads(0, at(1))},
		} {
			m := laid(16, space, l...)
			for i := range l {
				if got := wantReach(t, m, at(i)); len(got) == 0 || got[0] != at(i) {
					t.Fatalf("Reach of %d: got %#x", i, got)
				}
				wantReach(t, m, at(i), at(0), at(i), at(len(l)-1))
			}
			if !walk.Sound(m, space, 4*len(l)) {
				t.Fatalf("Sound of %+v: got false", l)
			}
			for limit := range 17 {
				wantAll(t, m, space, limit)
			}
		}
	}
}

// P6.2: a ring through both spaces is reached, but neither of them is sound.
func TestBothSpaces(t *testing.T) {
	m := laid(16, 0, leads(address(1, 0)), leads(address(1, 3)))
	m, _ = with(m, 1, 0, leads(address(0, 3)), leads(address(0, 0)))
	if got := wantReach(t, m, address(0, 0)); !slices.Equal(got, []uint64{address(0, 0), address(1, 0), address(0, 3), address(1, 3)}) {
		t.Errorf("Reach: got %#x", got)
	}
	for space := range 2 {
		for limit := range 17 {
			wantAll(t, m, space, limit)
		}
		if walk.Sound(m, space, 6) || walk.Sound(m, space, 3) || !walk.Sound(m, space, 0) {
			t.Error("Sound")
		}
	}
}

// P6.2: a row as long as a space allows, and one through both spaces of the greatest memory; forth and back.
func TestLongRows(t *testing.T) {
	const n = 1365
	m := marked(4096)
	for i := range n {
		m, _ = with(m, 0, 3*i, leads(address(0, 3*(i+1)%(3*n))))
		m, _ = with(m, 1, 3*i, leads(address(1, max(3*(i-1), 0))))
	}
	got := wantReach(t, m, address(0, 0))
	if len(got) != n || got[n-1] != address(0, 3*n-3) {
		t.Fatalf("Reach along a row: got %d", len(got))
	}
	if got = wantReach(t, m, address(1, 3*n-3)); len(got) != n || got[n-1] != address(1, 0) {
		t.Fatalf("Reach back along a row: got %d", len(got))
	}
	if !walk.Sound(m, 0, 3*n) || !walk.Sound(m, 1, 3*n) {
		t.Error("Sound")
	}
	m.Sp[0][3*n-1] = address(1, 3*n-3)
	if got = wantReach(t, m, address(0, 0)); len(got) != 2*n || got[2*n-1] != address(1, 0) {
		t.Fatalf("Reach through both spaces: got %d", len(got))
	}
	if walk.Sound(m, 0, 3*n) || !walk.Sound(m, 1, 3*n) {
		t.Error("Sound through both spaces")
	}
	wantAll(t, m, 0, 3*n)
	wantAll(t, m, 1, 3*n)
}

// P6.2: objects that begin amid one another's words, in a row through both spaces.
func TestInterlaced(t *testing.T) {
	m := api.Mem{Words: 4096, Sp: [2][]uint64{make([]uint64, 4096), make([]uint64, 4096)}}
	next := address(1, 4092)
	n := 0
	for space := range 2 {
		for at := 4092; at >= 0; at -= 4 {
			for by := 1; by >= 0; by-- {
				m.Sp[space][at+by] = first(api.Head{Tag: 1, Len: 1, Map: 1})
				m.Sp[space][at+by+2] = next
				next = address(space, at+by)
				n++
			}
		}
	}
	if got := wantReach(t, m, next); len(got) != n || got[0] != next {
		t.Errorf("Reach: got %d, want %d", len(got), n)
	}
}

// space is a space filled with things all over, some of whose pointers lead to other things.
func space(words int, l []uint64) ([]thing, []int) {
	var things []thing
	var at []int
	place := 0
	for _, w := range l {
		n := 1 + int(w%7)
		x := gap(n)
		if w>>3%4 != 0 {
			n++
			x = object(1+int(w>>5%200), w>>13%(1<<(n-2)), make([]uint64, n-2)...)
		}
		if place+n > words {
			break
		}
		things, at = append(things, x), append(at, place)
		place += n
	}
	return things, append(at, place)
}

// wired gives things fields: mostly addresses where a thing of a space is, or whatever w tells.
func wired(things []thing, at []int, space int, wild bool, l []uint64) {
	strange := append(everywhere(24), 0, 0, 0)
	for i, x := range things {
		for k := range x.f {
			w := l[(i*7+k)%len(l)]
			target := int(w>>7) % len(things)
			switch {
			case wild && w%5 == 0:
				x.f[k] = strange[w>>9%uint64(len(strange))]
			case things[target].h.Tag == 255 && !wild:
				x.f[k] = 0
			default:
				x.f[k] = address(space, at[target])
			}
		}
	}
}

// P6.1 and P6.2: all calls, in memory all over: of sound spaces, and of such as aren't.
func TestMeasured(t *testing.T) {
	for seed := range uint64(200) {
		words := 16 + int(seed%60)
		m := marked(words)
		var ends [2]int
		for s := range 2 {
			things, at := space(words, mixed(40, seed+1000*uint64(s)))
			wired(things, at, s, seed%2 == 1, mixed(200, seed+uint64(s)))
			m, _ = with(m, s, 0, things...)
			ends[s] = at[len(at)-1]
		}
		for s := range 2 {
			for limit := -1; limit <= words+1; limit++ {
				wantAll(t, m, s, limit)
			}
			if seed%2 == 0 && !walk.Sound(m, s, ends[s]) {
				t.Fatalf("Sound of %v: got false", m.Sp[s][:ends[s]])
			}
		}
		for _, a := range everywhere(words) {
			wantReach(t, m, a)
			wantWords(t, m, []uint64{a})
		}
		for i, w := range mixed(20, seed) {
			wantReach(t, m, address(0, int(w>>1)%words), address(1, int(w>>9)%words), address(i%2, int(w>>17)%words))
		}
		wantReach(t, m, everywhere(words)...)
		wantWords(t, m, everywhere(words))
	}
}

// P6.3: what All tells stands side by side, from the beginning up to limit; Words of it is limit in all.
func TestSideBySide(t *testing.T) {
	told := 0
	for seed := range uint64(100) {
		words := 16 + int(seed)
		things, at := space(words, mixed(60, seed))
		s := int(seed % 2)
		m := laid(words, s, things...)
		for limit := range words + 1 {
			l, e := walk.All(m, s, limit)
			if e != api.OK {
				if len(l) != 0 || slices.Contains(at, limit) {
					t.Fatalf("All up to %d: got %#x, %d", limit, l, e)
				}
				continue
			}
			told++
			end := 0
			for i, a := range l {
				if a != address(s, end) || end != at[i] {
					t.Fatalf("All up to %d: got %#x at %d", limit, a, end)
				}
				end += length(things[i].h)
			}
			objects, fillers := walk.Words(m, l)
			if end != limit || objects+fillers != limit {
				t.Fatalf("All up to %d ends at %d, of %d and %d words", limit, end, objects, fillers)
			}
			solid, _ := walk.Objects(m, s, limit)
			if n, k := walk.Words(m, solid); n != objects || k != 0 {
				t.Fatalf("Words of Objects up to %d: got %d, %d, want %d", limit, n, k, objects)
			}
		}
	}
	if told < 500 {
		t.Errorf("All was told %d times alone", told)
	}
}

// P6.3: what is reached from a sound space's objects is in it.
func TestReachedIsInIt(t *testing.T) {
	for seed := range uint64(150) {
		words := 24 + int(seed%50)
		things, at := space(words, mixed(60, seed))
		s := int(seed / 3 % 2)
		wired(things, at, s, seed%3 == 0, mixed(300, seed))
		m := laid(words, s, things...)
		for _, limit := range at {
			if !walk.Sound(m, s, limit) {
				continue
			}
			l, _ := walk.Objects(m, s, limit)
			if got := wantReach(t, m, l...); len(got) != len(l) {
				t.Fatalf("Reach of all objects: got %#x, want those of %#x", got, l)
			}
			for _, a := range l {
				for _, b := range wantReach(t, m, a) {
					if !slices.Contains(l, b) {
						t.Fatalf("Reach of %#x: got %#x, which is none of %#x", a, b, l)
					}
				}
			}
		}
	}
}

// R3: what came out is one's own: what is written into it is seen neither in what was handed in nor in what comes out later.
func TestAnswersAreNew(t *testing.T) {
	m := laid(16, 0, leads(address(0, 3)), leads(0))
	before := twice(m)
	roots := []uint64{address(0, 0), address(0, 3)}
	for range 2 {
		all, _ := walk.All(m, 0, 6)
		objects, _ := walk.Objects(m, 0, 6)
		reached := walk.Reach(m, roots)
		for _, l := range [][]uint64{all, objects, reached} {
			if !slices.Equal(l, []uint64{address(0, 0), address(0, 3)}) {
				t.Fatalf("got %#x", l)
			}
			l[0], l[1] = 7, 8
		}
		unchanged(t, m, before)
		if roots[0] != address(0, 0) || roots[1] != address(0, 3) {
			t.Fatalf("the roots are %#x", roots)
		}
	}
}

// R1: of memory that isn't right nothing is promised, but that every call ends.
func TestEveryCallEnds(t *testing.T) {
	spaces := func(words, n, k int) api.Mem {
		m := api.Mem{Words: words, Sp: [2][]uint64{marked(n).Sp[0], marked(k).Sp[1]}}
		for s := range 2 {
			for at := range m.Sp[s] {
				m.Sp[s][at] = first(api.Head{Tag: 255 - 250*(at%2), Len: 5, Map: uint64(at%2) * 31})
			}
		}
		return m
	}
	for _, m := range []api.Mem{{}, {Words: 16}, {Words: math.MaxInt}, spaces(16, 5, 3), spaces(100, 20, 10), spaces(math.MaxInt, 20, 0), spaces(math.MinInt, 20, 20), spaces(3, 20, 20), spaces(1<<33, 18, 18)} {
		before := twice(m)
		for s := -1; s <= 2; s++ {
			for _, limit := range append([]int{0, 1, 6, 18, 20, 99}, far...) {
				walk.All(m, s, limit)
				walk.Objects(m, s, limit)
				walk.Sound(m, s, limit)
			}
		}
		walk.Words(m, everywhere(20))
		walk.Reach(m, everywhere(20))
		unchanged(t, m, before)
	}
}
