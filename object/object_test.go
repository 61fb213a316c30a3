package object_test

import (
	"math"
	"testing"

	"dovecote/api"
	"dovecote/object"
)

// Numbers far outside of all that may be.
var far = []int{math.MinInt, math.MinInt + 1, -(1 << 62), -(1 << 32), -65537, -4096, -17, -2, 4098, 65538, 1 << 24, 1<<31 - 1, 1 << 31, 1<<32 - 1, 1 << 32, 1<<32 + 1, 1 << 62, math.MaxInt - 1, math.MaxInt}

// address is the measure: told by whole numbers, not by the layers below. So are all measures here.
func address(space, at int) uint64 { return uint64(space+1)*4294967296 + uint64(at) }

// outside are addresses that aren't there in memory of so many words, and such as are no address.
func outside(words int) []uint64 {
	l := []uint64{0, 1, 5, uint64(words), 0xffffffff, address(2, 0), address(2, 5), address(3, 0), 1 << 63, 1<<63 + address(0, 3), 1<<40 + address(1, 3), math.MaxUint64, math.MaxUint64 - 1, math.MaxUint64 - 1<<32}
	for space := range 2 {
		for _, at := range []int{words, words + 1, 2 * words, 4096, 4097, 1 << 16, 1 << 31, 1<<32 - 2, 1<<32 - 1} {
			l = append(l, address(space, at))
		}
	}
	return l
}

// addresses are all that are there, and those outside.
func addresses(words int) []uint64 {
	l := outside(words)
	for space := range 2 {
		for at := range words {
			l = append(l, address(space, at))
		}
	}
	return l
}

// mixed are words all over, the same ones each time, of all lengths.
func mixed(n int, seed uint64) []uint64 {
	var l []uint64
	for i := range n {
		seed = seed*6364136223846793005 + 1442695040888963407
		l = append(l, seed>>(i%64))
	}
	return l
}

// marked is memory in which no two words are the same, none is 0, and none is a head's.
func marked(words int) api.Mem {
	m := api.Mem{Words: words}
	for space := range 2 {
		for at := range words {
			m.Sp[space] = append(m.Sp[space], uint64(space)<<63+uint64(1000+at))
		}
	}
	return m
}

// empty is memory whose words are all 0.
func empty(words int) api.Mem {
	return api.Mem{Words: words, Sp: [2][]uint64{make([]uint64, words), make([]uint64, words)}}
}

// twice is memory once more, which shares nothing with it.
func twice(m api.Mem) api.Mem {
	for space, l := range m.Sp {
		m.Sp[space] = append([]uint64{}, l...)
	}
	return m
}

// with is memory once more, with these words from an address on.
func with(m api.Mem, a uint64, words ...uint64) api.Mem {
	m = twice(m)
	copy(m.Sp[a/4294967296-1][a%4294967296:], words)
	return m
}

// word is the word there.
func word(m api.Mem, a uint64) uint64 { return m.Sp[a/4294967296-1][a%4294967296] }

// alike: are two the same, word by word?
func alike(a, b api.Mem) bool {
	for space := range 2 {
		if len(a.Sp[space]) != len(b.Sp[space]) {
			return false
		}
		for i, w := range a.Sp[space] {
			if b.Sp[space][i] != w {
				return false
			}
		}
	}
	return a.Words == b.Words
}

// first is a head's word.
func first(h api.Head) uint64 {
	return uint64(h.Tag)*72057594037927936 + uint64(h.Len)*4294967296 + h.Map
}

// right is what chapter 4 answers of a head.
func right(h api.Head) api.Errno {
	most, allowed := 16, h.Len
	if h.Tag == 255 {
		most, allowed = 65535, 0
	}
	switch {
	case h.Tag != 255 && (h.Tag < 1 || h.Tag > 200), h.Len < 0:
		return api.ErrArg
	case h.Len > most:
		return api.ErrBig
	case allowed < 64 && h.Map>>allowed != 0:
		return api.ErrKind
	}
	return api.OK
}

// length is how many words a right head tells.
func length(h api.Head) int {
	if h.Tag == 255 {
		return h.Len + 1
	}
	return h.Len + 2
}

// fits: are n words there from an address on?
func fits(m api.Mem, a uint64, n int) bool {
	space, at := a/4294967296, a%4294967296
	return (space == 1 || space == 2) && at < uint64(m.Words) && at+uint64(n) <= uint64(m.Words)
}

// put is what Put must answer.
func put(m api.Mem, a uint64, h api.Head) (api.Mem, api.Errno) {
	if e := right(h); e != api.OK {
		return m, e
	}
	if !fits(m, a, length(h)) {
		return m, api.ErrSpace
	}
	if h.Tag == 255 {
		return with(m, a, first(h)), api.OK
	}
	words := make([]uint64, length(h))
	words[0] = first(h)
	return with(m, a, words...), api.OK
}

// at is what At must answer.
func at(m api.Mem, a uint64) (api.Head, api.Errno) {
	if !fits(m, a, 1) {
		return api.Head{}, api.ErrSpace
	}
	w := word(m, a)
	h := api.Head{Tag: int(w / 72057594037927936), Len: int(w / 4294967296 % 16777216), Map: w % 4294967296}
	if right(h) != api.OK {
		return api.Head{}, api.ErrForm
	}
	if !fits(m, a, length(h)) {
		return api.Head{}, api.ErrSpace
	}
	return h, api.OK
}

// owner is what all must answer that don't take a filler.
func owner(m api.Mem, a uint64) (api.Head, api.Errno) {
	h, e := at(m, a)
	if e == api.OK && h.Tag == 255 {
		return h, api.ErrKind
	}
	return h, e
}

// has is what Get and Set must answer of a field that may not be there.
func has(m api.Mem, a uint64, i int) (api.Head, api.Errno) {
	h, e := owner(m, a)
	if e == api.OK && (i < 0 || i >= h.Len) {
		return h, api.ErrField
	}
	return h, e
}

// check holds an answer against what it must be, and what was handed in against what it was.
func check(t *testing.T, in, before, got, want api.Mem, e, f api.Errno, call string, args ...any) {
	t.Helper()
	if e != f {
		t.Fatalf("%s %v: got error %d, want %d", call, args, e, f)
	}
	if !alike(got, want) {
		t.Fatalf("%s %v: got %v, want %v", call, args, got, want)
	}
	if !alike(in, before) {
		t.Fatalf("%s %v: what was handed in is changed", call, args)
	}
}

func wantPut(t *testing.T, m api.Mem, a uint64, h api.Head) api.Mem {
	t.Helper()
	before := twice(m)
	want, f := put(before, a, h)
	got, e := object.Put(m, a, h)
	check(t, m, before, got, want, e, f, "Put", a, h)
	return got
}

func wantAt(t *testing.T, m api.Mem, a uint64) {
	t.Helper()
	before := twice(m)
	want, f := at(before, a)
	got, e := object.At(m, a)
	check(t, m, before, m, before, e, f, "At", a)
	if got != want {
		t.Fatalf("At %#x: got %+v, want %+v", a, got, want)
	}
}

func wantFill(t *testing.T, m api.Mem, a uint64, n int) api.Mem {
	t.Helper()
	before := twice(m)
	want, f := before, api.ErrArg
	if n >= 1 && n <= 65536 {
		want, f = put(before, a, api.Head{Tag: 255, Len: n - 1})
	}
	got, e := object.Fill(m, a, n)
	check(t, m, before, got, want, e, f, "Fill", a, n)
	return got
}

func wantGet(t *testing.T, m api.Mem, a uint64, i int) {
	t.Helper()
	before := twice(m)
	h, f := has(before, a, i)
	want, pointer := uint64(0), false
	if f == api.OK {
		want, pointer = word(before, a+2+uint64(i)), h.Map/(1<<i)%2 == 1
	}
	got, is, e := object.Get(m, a, i)
	check(t, m, before, m, before, e, f, "Get", a, i)
	if got != want || is != pointer {
		t.Fatalf("Get %#x, %d: got %#x, %v, want %#x, %v", a, i, got, is, want, pointer)
	}
}

func wantSet(t *testing.T, m api.Mem, a uint64, i int, v uint64) api.Mem {
	t.Helper()
	before := twice(m)
	want := before
	_, f := has(before, a, i)
	if f == api.OK {
		want = with(before, a+2+uint64(i), v)
	}
	got, e := object.Set(m, a, i, v)
	check(t, m, before, got, want, e, f, "Set", a, i, v)
	return got
}

func wantTwin(t *testing.T, m api.Mem, a uint64) {
	t.Helper()
	before := twice(m)
	_, f := owner(before, a)
	want := uint64(0)
	if f == api.OK {
		want = word(before, a+1)
	}
	got, e := object.Twin(m, a)
	check(t, m, before, m, before, e, f, "Twin", a)
	if got != want {
		t.Fatalf("Twin %#x: got %#x, want %#x", a, got, want)
	}
}

func wantJoin(t *testing.T, m api.Mem, a, b uint64) api.Mem {
	t.Helper()
	before := twice(m)
	want, joined := before, false
	_, f := owner(before, a)
	if f == api.OK && word(before, a+1) == 0 {
		want, joined = with(before, a+1, b), true
	}
	got, did, e := object.Join(m, a, b)
	check(t, m, before, got, want, e, f, "Join", a, b)
	if did != joined {
		t.Fatalf("Join %#x, %#x: got %v, want %v", a, b, did, joined)
	}
	return got
}

// objects are heads of objects with 0, 1, 2, 3 and 16 fields, and fillers at the edges.
func objects() []api.Head {
	return []api.Head{
		{Tag: 1}, {Tag: 200}, {Tag: 128}, {Tag: 1, Len: 1}, {Tag: 7, Len: 1, Map: 1}, {Tag: 1, Len: 2, Map: 2}, {Tag: 199, Len: 3, Map: 5},
		{Tag: 1, Len: 13, Map: 1}, {Tag: 1, Len: 14}, {Tag: 1, Len: 15, Map: 1<<15 - 1}, {Tag: 200, Len: 16}, {Tag: 200, Len: 16, Map: 1<<16 - 1}, {Tag: 9, Len: 16, Map: 0x8421},
		{Tag: 255}, {Tag: 255, Len: 1}, {Tag: 255, Len: 2}, {Tag: 255, Len: 14}, {Tag: 255, Len: 15}, {Tag: 255, Len: 16}, {Tag: 255, Len: 17}, {Tag: 255, Len: 4094}, {Tag: 255, Len: 4095}, {Tag: 255, Len: 4096}, {Tag: 255, Len: 65534}, {Tag: 255, Len: 65535},
	}
}

// wrong are heads that aren't right.
func wrong() []api.Head {
	l := []api.Head{
		{}, {Tag: -1}, {Tag: 201}, {Tag: 254}, {Tag: 256}, {Tag: 0, Len: 17}, {Tag: 201, Len: 2, Map: 4}, {Tag: 1, Len: -1}, {Tag: 255, Len: -1}, {Tag: 255, Len: -1, Map: 1},
		{Tag: 1, Len: 17}, {Tag: 200, Len: 17, Map: 1 << 17}, {Tag: 255, Len: 65536}, {Tag: 255, Len: 65536, Map: 1},
		{Tag: 1, Map: 1}, {Tag: 1, Len: 1, Map: 2}, {Tag: 1, Len: 16, Map: 1 << 16}, {Tag: 1, Len: 16, Map: 1 << 32}, {Tag: 1, Len: 16, Map: 1 << 63}, {Tag: 255, Len: 2, Map: 1}, {Tag: 255, Len: 65535, Map: 1 << 63},
	}
	for _, n := range far {
		l = append(l, api.Head{Tag: n}, api.Head{Tag: n, Len: 1, Map: 1}, api.Head{Tag: 1, Len: n})
		if n < 0 || n > 65535 {
			l = append(l, api.Head{Tag: 255, Len: n})
		}
	}
	return l
}

// P5.1: the example: an object of 2 fields at (0, 4): its words are at 4 to 7, its field 1 at 7.
func TestExample(t *testing.T) {
	m, e := object.Put(marked(16), 0x1_00000004, api.Head{Tag: 1, Len: 2, Map: 2})
	want := [...]uint64{1000, 1001, 1002, 1003, 0x01000002_00000002, 0, 0, 0, 1008, 1009, 1010, 1011, 1012, 1013, 1014, 1015}
	if e != api.OK || [16]uint64(m.Sp[0]) != want {
		t.Fatalf("Put: got %v, %d", m.Sp[0], e)
	}
	m, e = object.Set(m, 0x1_00000004, 1, 77)
	if e != api.OK || m.Sp[0][7] != 77 || m.Sp[0][6] != 0 {
		t.Fatalf("Set: got %v, %d", m.Sp[0], e)
	}
	if v, pointer, e := object.Get(m, 0x1_00000004, 1); v != 77 || !pointer || e != api.OK {
		t.Fatalf("Get: got %d, %v, %d", v, pointer, e)
	}
	if v, pointer, e := object.Get(m, 0x1_00000004, 0); v != 0 || pointer || e != api.OK {
		t.Fatalf("Get: got %d, %v, %d", v, pointer, e)
	}
}

// P5.1: objects and fillers at each place of both spaces, up to the last word, a word too long, and outside.
func TestPut(t *testing.T) {
	for _, words := range []int{16, 17, 18, 19, 40} {
		for _, m := range []api.Mem{marked(words), empty(words)} {
			for _, h := range objects() {
				for _, a := range addresses(words) {
					wantAt(t, wantPut(t, m, a, h), a)
				}
			}
		}
	}
}

// P5.1: what ends at a space's last word, and what is one word too long, in memory of 16 and of 4096 words.
func TestPutAtTheEnd(t *testing.T) {
	for _, words := range []int{16, 4096} {
		m := marked(words)
		for _, h := range objects() {
			for space := range 2 {
				for by := -1; by <= 1; by++ {
					at := words - length(h) + by
					if at < 0 {
						continue
					}
					e := api.OK
					if by == 1 {
						e = api.ErrSpace
					}
					if _, got := object.Put(m, address(space, at), h); got != e {
						t.Fatalf("Put(%+v) at (%d, %d) of %d words: got %d, want %d", h, space, at, words, got, e)
					}
					wantPut(t, m, address(space, at), h)
				}
			}
		}
	}
}

// P5.1: heads that aren't right, at addresses that are there and at such that aren't: Right's error is named first.
func TestPutWrongHead(t *testing.T) {
	m := marked(20)
	for _, h := range wrong() {
		if right(h) == api.OK {
			t.Fatalf("%+v is right", h)
		}
		for _, a := range addresses(20) {
			wantPut(t, m, a, h)
		}
	}
	for _, x := range []struct {
		h api.Head
		e api.Errno
	}{
		{api.Head{Tag: 0, Len: 17}, api.ErrArg},
		{api.Head{Tag: 1, Len: 17, Map: 1 << 20}, api.ErrBig},
		{api.Head{Tag: 255, Len: 65536}, api.ErrBig},
		{api.Head{Tag: 1, Len: 16, Map: 1 << 16}, api.ErrKind},
		{api.Head{Tag: 1, Len: 16, Map: 1}, api.ErrSpace},
		{api.Head{Tag: 255, Len: 65535}, api.ErrSpace},
	} {
		for _, a := range []uint64{0, 5, address(0, 20), address(1, 19), address(2, 0)} {
			if _, e := object.Put(m, a, x.h); e != x.e {
				t.Errorf("Put(%#x, %+v): got %d, want %d", a, x.h, e, x.e)
			}
		}
	}
}

// P5.1: over what was there: all of the new one's words are 0, the others stay.
func TestPutOverAnother(t *testing.T) {
	for _, words := range []int{18, 30} {
		for _, old := range objects() {
			for _, h := range objects() {
				m := wantPut(t, marked(words), address(1, 0), old)
				for i := range old.Len {
					if old.Tag != 255 && fits(m, address(1, 0), length(old)) {
						m = wantSet(t, m, address(1, 0), i, uint64(500+i))
					}
				}
				for _, at := range []int{0, 1, 2, 3, words - 18, words - 3, words - 1} {
					wantPut(t, m, address(1, at), h)
				}
			}
		}
	}
}

// P5.1: words that look like a head's, and such as are none, at each place, up to the space's end.
func TestAt(t *testing.T) {
	words := []uint64{
		0, 1, 0x00000002_00000002, 0x01000011_00000000, 0x01ffffff_00000000, 0xc9000000_00000000, 0xfe000000_00000000, 0xff010000_00000000, 0xff000001_00000001, 0x01000000_00000001, 0x01000002_00000004, 0x01000010_00010000, 0x01000010_80000000, math.MaxUint64,
	}
	for _, h := range objects() {
		words = append(words, first(h), first(h)^1, first(h)^1<<63, first(h)^1<<56, first(h)^1<<36)
	}
	for _, w := range words {
		for _, n := range []int{16, 18, 25} {
			m := marked(n)
			for space := range 2 {
				for place := range n {
					a := address(space, place)
					wantAt(t, with(m, a, w), a)
				}
			}
		}
	}
}

// P5.1: which of At's errors it is: the address isn't there; no head, also in the last word; a head whose words aren't there.
func TestAtErrors(t *testing.T) {
	m := marked(16)
	m.Sp[0][15] = 0x01000000_00000000 // two words
	m.Sp[0][14] = 0x01000000_00000000
	m.Sp[0][13] = 0x01000002_00000000
	m.Sp[0][0] = 0x0100000e_00000000
	m.Sp[1][15] = 0xff000000_00000000 // a filler of one
	m.Sp[1][14] = 0xff000002_00000000
	m.Sp[1][0] = 0xff00ffff_00000000
	m.Sp[1][1] = 0xff00000e_00000000
	m.Sp[1][2] = 0xff00000e_00000000
	for _, x := range []struct {
		a uint64
		h api.Head
		e api.Errno
	}{
		{address(0, 0), api.Head{Tag: 1, Len: 14}, api.OK},
		{address(0, 12), api.Head{}, api.ErrForm},
		{address(0, 13), api.Head{}, api.ErrSpace},
		{address(0, 14), api.Head{Tag: 1}, api.OK},
		{address(0, 15), api.Head{}, api.ErrSpace},
		{address(0, 16), api.Head{}, api.ErrSpace},
		{address(1, 0), api.Head{}, api.ErrSpace},
		{address(1, 1), api.Head{Tag: 255, Len: 14}, api.OK},
		{address(1, 2), api.Head{}, api.ErrSpace},
		{address(1, 3), api.Head{}, api.ErrForm},
		{address(1, 14), api.Head{}, api.ErrSpace},
		{address(1, 15), api.Head{Tag: 255}, api.OK},
		{address(1, 16), api.Head{}, api.ErrSpace},
		{address(2, 0), api.Head{}, api.ErrSpace},
		{0, api.Head{}, api.ErrSpace},
		{14, api.Head{}, api.ErrSpace},
		{1<<63 + address(0, 0), api.Head{}, api.ErrSpace},
	} {
		if h, e := object.At(m, x.a); h != x.h || e != x.e {
			t.Errorf("At(%#x): got %+v, %d, want %+v, %d", x.a, h, e, x.h, x.e)
		}
	}
	for _, a := range addresses(16) {
		wantAt(t, m, a)
	}
}

// P5.1: words all over, many of them heads'.
func TestAtMeasured(t *testing.T) {
	for seed := range uint64(40) {
		m := scattered(30, seed)
		for _, a := range addresses(30) {
			wantAt(t, m, a)
		}
	}
}

// scattered is memory whose words are all over: every other one is a head's, or nearly so.
func scattered(words int, seed uint64) api.Mem {
	m := api.Mem{Words: words, Sp: [2][]uint64{mixed(words, seed), mixed(words, seed+100)}}
	heads := objects()
	for space := range 2 {
		for at, w := range m.Sp[space] {
			if w%2 == 0 {
				m.Sp[space][at] = first(heads[w/2%uint64(len(heads))])
			} else if w%4 == 1 {
				m.Sp[space][at] = w>>5%256<<56 + w>>7%18<<32 + w>>9%(1<<(w%18))
			}
		}
	}
	return m
}

// P5.1: fillers of all numbers of words that fit, and of such that don't.
func TestFill(t *testing.T) {
	for _, words := range []int{16, 33} {
		m := marked(words)
		for _, a := range addresses(words) {
			for n := -2; n <= words+2; n++ {
				wantFill(t, m, a, n)
			}
			for _, n := range append([]int{4095, 4096, 4097, 65535, 65536, 65537}, far...) {
				wantFill(t, m, a, n)
			}
		}
	}
	m := marked(4096)
	for _, n := range []int{0, 1, 2, 3, 4095, 4096, 4097, 65536, 65537} {
		for _, place := range []int{0, 1, 2, 4093, 4094, 4095, 4096} {
			wantFill(t, m, address(1, place), n)
		}
	}
}

// P5.1: what Fill refuses, and which error is named first.
func TestFillErrors(t *testing.T) {
	m := marked(16)
	for _, x := range []struct {
		a uint64
		n int
		e api.Errno
	}{
		{address(0, 0), 1, api.OK},
		{address(0, 0), 2, api.OK},
		{address(0, 0), 16, api.OK},
		{address(0, 0), 17, api.ErrSpace},
		{address(1, 15), 1, api.OK},
		{address(1, 15), 2, api.ErrSpace},
		{address(1, 14), 2, api.OK},
		{address(0, 0), 0, api.ErrArg},
		{address(0, 0), -1, api.ErrArg},
		{address(0, 0), 65536, api.ErrSpace},
		{address(0, 0), 65537, api.ErrArg},
		{address(0, 16), 1, api.ErrSpace},
		{address(0, 16), 0, api.ErrArg},
		{address(0, 16), 65537, api.ErrArg},
		{0, 1, api.ErrSpace},
		{0, 65536, api.ErrSpace},
		{0, -1, api.ErrArg},
		{0, math.MinInt, api.ErrArg},
		{0, math.MaxInt, api.ErrArg},
	} {
		got, e := object.Fill(m, x.a, x.n)
		if e != x.e {
			t.Errorf("Fill(%#x, %d): got %d, want %d", x.a, x.n, e, x.e)
		}
		if e != api.OK && !alike(got, m) {
			t.Errorf("Fill(%#x, %d): got %v beside the error", x.a, x.n, got)
		}
	}
}

// P5.1: a filler's other words hold anything, and stay as they are.
func TestFillerHoldsAnything(t *testing.T) {
	for _, inside := range []uint64{0, 1, math.MaxUint64, 0x01000010_0000ffff, 0xff00ffff_00000000} {
		m := with(marked(16), address(0, 3), 9, inside, inside, inside)
		for n := 1; n <= 13; n++ {
			k := wantFill(t, m, address(0, 3), n)
			if h, e := object.At(k, address(0, 3)); e != api.OK || h != (api.Head{Tag: 255, Len: n - 1}) {
				t.Fatalf("At of a filler of %d with %#x inside: got %+v, %d", n, inside, h, e)
			}
			if k.Sp[0][4] != inside || k.Sp[0][5] != inside {
				t.Fatalf("a filler of %d: what was %#x is %#x", n, inside, k.Sp[0][4])
			}
			wantGet(t, k, address(0, 3), 0)
			wantTwin(t, k, address(0, 3))
		}
	}
}

// sides are numbers at the edges of so many fields, and far outside.
func sides(fields int) []int {
	return append([]int{-1, 0, 1, 2, fields - 1, fields, fields + 1, 15, 16, 17, 31, 32, 63, 64, 65}, far...)
}

// P5.2: each field of each object is set and got; i at the edges and far outside.
func TestGetAndSet(t *testing.T) {
	for _, h := range objects() {
		for _, words := range []int{18, 29} {
			for space := range 2 {
				for _, at := range []int{0, 1, words - length(h)} {
					a := address(space, at)
					if at < 0 || !fits(marked(words), a, length(h)) {
						continue
					}
					m := with(marked(words), a, first(h)) // the fields are what stood there
					for _, i := range sides(h.Len) {
						wantGet(t, m, a, i)
						for _, v := range []uint64{0, 1, 0x01000002_00000002, address(1, 5), math.MaxUint64} {
							wantGet(t, wantSet(t, m, a, i, v), a, i)
						}
					}
				}
			}
		}
	}
}

// P5.2: which fields are pointers, of objects of up to 8 fields with all maps, and of 16.
func TestGetTellsPointers(t *testing.T) {
	for fields := range 9 {
		for pointers := range uint64(1) << fields {
			m := with(marked(20), address(0, 7), first(api.Head{Tag: 3, Len: fields, Map: pointers}))
			for i := -1; i <= fields; i++ {
				wantGet(t, m, address(0, 7), i)
			}
		}
	}
	for _, w := range mixed(100, 5) {
		m := with(marked(20), address(1, 2), first(api.Head{Tag: 3, Len: 16, Map: w % 65536}))
		for i := -1; i <= 16; i++ {
			wantGet(t, m, address(1, 2), i)
		}
	}
}

// P5.2: errors in their order: At's, the filler's, the field's.
func TestFieldErrors(t *testing.T) {
	m := marked(16)
	m.Sp[0][4] = 0x01000002_00000002
	m.Sp[0][9] = 0xff000002_00000000
	m.Sp[0][14] = 0x01000001_00000000
	m.Sp[0][15] = 0xff000000_00000000
	m.Sp[1][14] = 0x01000000_00000000
	for _, x := range []struct {
		a uint64
		i int
		e api.Errno
	}{
		{address(0, 4), 0, api.OK},
		{address(0, 4), 1, api.OK},
		{address(0, 4), 2, api.ErrField},
		{address(0, 4), -1, api.ErrField},
		{address(0, 4), -2, api.ErrField},
		{address(0, 4), math.MinInt, api.ErrField},
		{address(0, 4), math.MaxInt, api.ErrField},
		{address(0, 4), 1 << 32, api.ErrField},
		{address(0, 9), 0, api.ErrKind},
		{address(0, 9), 1, api.ErrKind},
		{address(0, 9), 2, api.ErrKind},
		{address(0, 9), -1, api.ErrKind},
		{address(0, 15), 0, api.ErrKind},
		{address(0, 14), 0, api.ErrSpace},
		{address(0, 14), 9, api.ErrSpace},
		{address(1, 14), 0, api.ErrField},
		{address(1, 14), -1, api.ErrField},
		{address(0, 5), 0, api.ErrForm},
		{address(0, 5), -1, api.ErrForm},
		{address(0, 16), 0, api.ErrSpace},
		{address(0, 16), -1, api.ErrSpace},
		{0, 0, api.ErrSpace},
		{0, -1, api.ErrSpace},
		{address(2, 4), 0, api.ErrSpace},
	} {
		if v, pointer, e := object.Get(m, x.a, x.i); e != x.e || e != api.OK && (v != 0 || pointer) {
			t.Errorf("Get(%#x, %d): got %#x, %v, %d, want error %d", x.a, x.i, v, pointer, e, x.e)
		}
		if k, e := object.Set(m, x.a, x.i, 5); e != x.e || e != api.OK && !alike(k, m) {
			t.Errorf("Set(%#x, %d): got %v, %d, want error %d", x.a, x.i, k, e, x.e)
		}
	}
}

// P5.2 and P5.3: all calls at all addresses, in memory whose words are all over.
func TestAllOver(t *testing.T) {
	for seed := range uint64(30) {
		m := scattered(24, seed)
		for _, a := range addresses(24) {
			for _, i := range []int{-1, 0, 1, 2, 15, 16} {
				wantGet(t, m, a, i)
				wantSet(t, m, a, i, seed<<60+7)
			}
			wantTwin(t, m, a)
			wantJoin(t, m, a, address(0, 3))
		}
	}
}

// P5.3: a twin's word that is 0, and one that isn't; joined with 0, and twice.
func TestTwinAndJoin(t *testing.T) {
	for _, h := range objects() {
		for space := range 2 {
			for _, at := range []int{0, 3, 30 - length(h)} {
				a := address(space, at)
				if at < 0 || !fits(marked(30), a, length(h)) {
					continue
				}
				for _, twin := range []uint64{0, 1, address(1, 0), 1 << 63, math.MaxUint64} {
					m := with(marked(30), a, first(h))
					if h.Tag != 255 {
						m = with(m, a+1, twin)
					}
					wantTwin(t, m, a)
					for _, b := range []uint64{0, 1, twin, address(0, 0), address(1, 29), address(1, 30), math.MaxUint64} {
						k := wantJoin(t, m, a, b)
						wantTwin(t, k, a)
						wantJoin(t, k, a, address(1, 7))
						wantJoin(t, k, a, 0)
					}
				}
			}
		}
	}
}

// P5.3: errors in their order, and what is told beside them.
func TestTwinErrors(t *testing.T) {
	m := marked(16)
	m.Sp[0][4] = 0x01000002_00000002
	m.Sp[0][5] = 0
	m.Sp[0][9] = 0xff000002_00000000
	m.Sp[0][10] = 0
	m.Sp[0][15] = 0x01000000_00000000
	m.Sp[1][15] = 0xff000000_00000000
	m.Sp[1][14] = 0x02000000_00000000
	for _, x := range []struct {
		a    uint64
		twin uint64
		did  bool
		e    api.Errno
	}{
		{address(0, 4), 0, true, api.OK},
		{address(1, 14), 0xff000000_00000000, false, api.OK},
		{address(0, 9), 0, false, api.ErrKind},
		{address(1, 15), 0, false, api.ErrKind},
		{address(0, 15), 0, false, api.ErrSpace},
		{address(0, 6), 0, false, api.ErrForm},
		{address(0, 5), 0, false, api.ErrForm},
		{address(0, 16), 0, false, api.ErrSpace},
		{address(1, 16), 0, false, api.ErrSpace},
		{address(2, 4), 0, false, api.ErrSpace},
		{0, 0, false, api.ErrSpace},
		{4, 0, false, api.ErrSpace},
	} {
		if b, e := object.Twin(m, x.a); b != x.twin || e != x.e {
			t.Errorf("Twin(%#x): got %#x, %d, want %#x, %d", x.a, b, e, x.twin, x.e)
		}
		k, did, e := object.Join(m, x.a, 77)
		if did != x.did || e != x.e || !did && !alike(k, m) {
			t.Errorf("Join(%#x): got %v, %v, %d, want %v, %d", x.a, k, did, e, x.did, x.e)
		}
	}
}

// P5.4: what is put is there, with all fields 0 and no twin.
func TestWhatIsPutIsThere(t *testing.T) {
	for _, h := range objects() {
		for space := range 2 {
			for at := range 24 {
				m, e := object.Put(marked(24), address(space, at), h)
				if e != api.OK {
					continue
				}
				if k, e := object.At(m, address(space, at)); k != h || e != api.OK {
					t.Fatalf("At of %+v: got %+v, %d", h, k, e)
				}
				if h.Tag == 255 {
					continue
				}
				for i := range h.Len {
					if v, pointer, e := object.Get(m, address(space, at), i); v != 0 || pointer != (h.Map>>i%2 == 1) || e != api.OK {
						t.Fatalf("Get %d of %+v: got %#x, %v, %d", i, h, v, pointer, e)
					}
				}
				if b, e := object.Twin(m, address(space, at)); b != 0 || e != api.OK {
					t.Fatalf("Twin of %+v: got %#x, %d", h, b, e)
				}
			}
		}
	}
}

// P5.4: a field that was set is got, all others are as they were; nothing else changes.
func TestWhatIsSetIsGot(t *testing.T) {
	a := address(1, 5)
	for fields := 1; fields <= 16; fields++ {
		m := wantPut(t, marked(30), a, api.Head{Tag: 4, Len: fields, Map: 1<<fields - 1})
		was := make([]uint64, fields)
		for step, v := range mixed(60, uint64(fields)) {
			i := step * 7 % fields
			var e api.Errno
			if m, e = object.Set(m, a, i, v); e != api.OK {
				t.Fatal(e)
			}
			was[i] = v
			for k, want := range was {
				if got, _, e := object.Get(m, a, k); got != want || e != api.OK {
					t.Fatalf("behind Set %d, Get %d: got %#x, %d, want %#x", i, k, got, e, want)
				}
			}
		}
		want := with(marked(30), a, first(api.Head{Tag: 4, Len: fields, Map: 1<<fields - 1}), 0)
		if want = with(want, a+2, was...); !alike(m, want) {
			t.Fatalf("%d fields: got %v, want %v", fields, m, want)
		}
	}
}

// P5.4: a twin is joined once; with 0 it isn't joined.
func TestJoinedOnce(t *testing.T) {
	a := address(0, 2)
	m := wantPut(t, marked(20), a, api.Head{Tag: 8, Len: 1})
	for range 3 {
		var did bool
		var e api.Errno
		if m, did, e = object.Join(m, a, 0); !did || e != api.OK {
			t.Fatalf("Join with 0: got %v, %d", did, e)
		}
	}
	m, did, e := object.Join(m, a, address(1, 9))
	if !did || e != api.OK {
		t.Fatalf("Join: got %v, %d", did, e)
	}
	for _, b := range []uint64{address(1, 9), address(1, 3), 0, math.MaxUint64} {
		k, did, e := object.Join(m, a, b)
		if did || e != api.OK || !alike(k, m) {
			t.Fatalf("Join once more, with %#x: got %v, %d", b, did, e)
		}
		if twin, _ := object.Twin(k, a); twin != address(1, 9) {
			t.Fatalf("Twin: got %#x", twin)
		}
	}
}

// P5.4 and R3: long rows of calls; each memory on the way stays as it was.
func TestLongRows(t *testing.T) {
	heads := append(objects(), wrong()[:20]...)
	for seed := range uint64(20) {
		m := marked(16 + int(seed)*3)
		var all, kept []api.Mem
		all, kept = append(all, m), append(kept, twice(m))
		for _, w := range mixed(150, seed) {
			a := address(int(w%2), int(w>>1)%(m.Words+1))
			switch w >> 9 % 5 {
			case 0:
				m = wantPut(t, m, a, heads[w>>12%uint64(len(heads))])
			case 1:
				m = wantFill(t, m, a, int(w>>12%9)-1)
			case 2:
				m = wantJoin(t, m, a, w>>12%3)
			default:
				m = wantSet(t, m, a, int(w>>12%6)-1, w>>20)
			}
			for at := range m.Words {
				wantAt(t, m, address(int(w%2), at))
			}
			wantTwin(t, m, a)
			wantGet(t, m, a, int(w>>12%6)-1)
			all, kept = append(all, m), append(kept, twice(m))
		}
		for i, was := range kept {
			if !alike(all[i], was) {
				t.Fatalf("row %d: what call %d answered was changed by a later one", seed, i)
			}
		}
	}
}

// R3: what stands behind a space's end, in the memory of a longer row, isn't written into.
func TestBehindTheEnd(t *testing.T) {
	long := marked(40)
	was := twice(long)
	m := api.Mem{Words: 18, Sp: [2][]uint64{long.Sp[0][2:20], long.Sp[1][:18]}}
	for space := range 2 {
		for _, h := range objects() {
			k := wantPut(t, m, address(space, 0), h)
			wantSet(t, k, address(space, 0), 0, 5)
			wantJoin(t, k, address(space, 0), 5)
			wantFill(t, m, address(space, 3), 15)
		}
	}
	if !alike(long, was) {
		t.Error("words behind a space's end were written into")
	}
}

// R4: the same arguments, the same answers.
func TestOnceMore(t *testing.T) {
	m := scattered(20, 3)
	for _, a := range addresses(20) {
		for range 2 {
			for _, h := range objects() {
				wantPut(t, m, a, h)
			}
			wantSet(t, m, a, 0, 6)
			wantFill(t, m, a, 3)
			wantJoin(t, m, a, 6)
		}
	}
}

// R1: of memory that isn't right nothing is promised, but that every call ends; what an error stands beside is what was handed in.
func TestEveryCallEnds(t *testing.T) {
	spaces := func(words, first, second int) api.Mem {
		return api.Mem{Words: words, Sp: [2][]uint64{marked(first).Sp[0], marked(second).Sp[1]}}
	}
	for _, m := range []api.Mem{{}, {Words: 16}, {Words: math.MaxInt}, spaces(16, 5, 3), spaces(100, 20, 10), spaces(math.MaxInt, 20, 0), spaces(math.MinInt, 20, 20), spaces(3, 20, 20), spaces(1<<33, 18, 18)} {
		for _, h := range append(objects(), wrong()...) {
			for space := range 2 {
				for _, at := range []int{0, 1, 2, 4, 9, 17, 18, 19, 20, 99, 1<<32 - 1} {
					before := twice(m)
					a := address(space, at)
					put, e := object.Put(m, a, h)
					check(t, m, before, m, before, e, e, "Put", a, h)
					if e != api.OK {
						check(t, m, before, put, before, e, e, "Put", a, h)
						put = m
					}
					object.At(put, a)
					object.Get(put, a, h.Len-1)
					object.Set(put, a, h.Len-1, 6)
					object.Twin(put, a)
					object.Join(put, a, 6)
					object.Fill(put, a, h.Len)
					check(t, m, before, m, before, e, e, "all", a, h)
				}
			}
		}
	}
}
