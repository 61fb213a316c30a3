package head_test

import (
	"math"
	"slices"
	"testing"

	"dovecote/api"
	"dovecote/head"
)

// Numbers at the edges that the chapter names, beside them, and far outside of all of them.
var (
	tags    = []int{math.MinInt, -256, -255, -1, 0, 1, 2, 100, 199, 200, 201, 254, 255, 256, 257, 511, 1 << 32, 1<<56 + 1, math.MaxInt}
	lengths = []int{math.MinInt, math.MinInt + 16, -65535, -64, -1, 0, 1, 2, 8, 15, 16, 17, 31, 32, 63, 64, 65, 65534, 65535, 65536, 1<<24 - 1, 1 << 24, 1<<24 + 2, 1 << 32, math.MaxInt - 1, math.MaxInt}
	fields  = []int{math.MinInt, -64, -2, -1, 0, 1, 2, 7, 14, 15, 16, 17, 31, 32, 33, 63, 64, 65, 127, 65534, 65535, 1 << 32, math.MaxInt}
)

// maps are those with each bit alone, with all bits below each length, with all but one, and such as are mixed.
func maps() []uint64 {
	l := []uint64{0, math.MaxUint64, 1<<31 | 1, 1<<32 | 1, 1<<63 | 1, 0x5555, 0xaaaa}
	for bit := range 64 {
		l = append(l, 1<<bit, 1<<bit-1, math.MaxUint64-1<<bit)
	}
	return append(l, mixed(64)...)
}

// mixed are words all over, the same ones each time, of all lengths.
func mixed(n int) []uint64 {
	var l []uint64
	x := uint64(4)
	for i := range n {
		x = x*6364136223846793005 + 1442695040888963407
		l = append(l, x>>(i%64))
	}
	return l
}

// heads are all heads with those tags, lengths and maps.
func heads(yield func(api.Head) bool) {
	all := maps()
	for _, tag := range tags {
		for _, length := range lengths {
			for _, m := range all {
				if !yield(api.Head{Tag: tag, Len: length, Map: m}) {
					return
				}
			}
		}
	}
}

// has tells bits of a map by whole numbers: halves it i times.
func has(m uint64, i int) bool {
	for range i {
		m /= 2
	}
	return m%2 == 1
}

// measured is what Right must answer: all that is wrong is looked for, the first that the promise names is told.
func measured(h api.Head) api.Errno {
	filler := h.Tag == 255
	most, allowed := 16, h.Len
	if filler {
		most, allowed = 65535, 0
	}
	var arg, big, kind bool
	arg = h.Len < 0 || !filler && (h.Tag < 1 || h.Tag > 200)
	big = h.Len > most
	for bit := range 64 {
		kind = kind || has(h.Map, bit) && bit >= allowed
	}
	for _, x := range []struct {
		wrong bool
		e     api.Errno
	}{{arg, api.ErrArg}, {big, api.ErrBig}, {kind, api.ErrKind}} {
		if x.wrong {
			return x.e
		}
	}
	return api.OK
}

// word is a right head's word, by sums and products.
func word(h api.Head) uint64 {
	return uint64(h.Tag)*72057594037927936 + uint64(h.Len)*4294967296 + h.Map
}

// wantRight holds Right and Word against an error.
func wantRight(t *testing.T, h api.Head, e api.Errno) {
	t.Helper()
	if got := head.Right(h); got != e {
		t.Fatalf("Right(%+v): got %d, want %d", h, got, e)
	}
	w := uint64(0)
	if e == api.OK {
		w = word(h)
	}
	if got, f := head.Word(h); got != w || f != e {
		t.Fatalf("Word(%+v): got %#x, %d, want %#x, %d", h, got, f, w, e)
	}
}

// wantTake holds Take against a head, or against nothing.
func wantTake(t *testing.T, w uint64, h api.Head, e api.Errno) {
	t.Helper()
	if got, f := head.Take(w); got != h || f != e {
		t.Fatalf("Take(%#x): got %+v, %d, want %+v, %d", w, got, f, h, e)
	}
}

// P4.1: the tags that may be, and those beside them.
func TestRightTags(t *testing.T) {
	for tag := -300; tag <= 600; tag++ {
		e := api.ErrArg
		if tag >= 1 && tag <= 200 || tag == 255 {
			e = api.OK
		}
		wantRight(t, api.Head{Tag: tag}, e)
		wantRight(t, api.Head{Tag: tag, Len: 16}, e)
	}
	for _, tag := range []int{math.MinInt, -255, 0, 201, 254, 256, 1<<32 + 1, 1<<56 + 255, math.MaxInt} {
		wantRight(t, api.Head{Tag: tag, Len: 2, Map: 1}, api.ErrArg)
	}
}

// P4.1: lengths of objects and of fillers.
func TestRightLengths(t *testing.T) {
	for _, x := range []struct {
		length         int
		object, filler api.Errno
	}{
		{math.MinInt, api.ErrArg, api.ErrArg},
		{-1, api.ErrArg, api.ErrArg},
		{0, api.OK, api.OK},
		{1, api.OK, api.OK},
		{15, api.OK, api.OK},
		{16, api.OK, api.OK},
		{17, api.ErrBig, api.OK},
		{65534, api.ErrBig, api.OK},
		{65535, api.ErrBig, api.OK},
		{65536, api.ErrBig, api.ErrBig},
		{1<<24 - 1, api.ErrBig, api.ErrBig},
		{1 << 24, api.ErrBig, api.ErrBig},
		{1 << 32, api.ErrBig, api.ErrBig},
		{math.MaxInt, api.ErrBig, api.ErrBig},
	} {
		for _, tag := range []int{1, 77, 200} {
			wantRight(t, api.Head{Tag: tag, Len: x.length}, x.object)
		}
		wantRight(t, api.Head{Tag: 255, Len: x.length}, x.filler)
	}
}

// P4.1: each bit alone, and all bits below the length, of objects of all lengths and of fillers.
func TestRightMaps(t *testing.T) {
	for length := range 17 {
		for bit := range 64 {
			e := api.OK
			if bit >= length {
				e = api.ErrKind
			}
			wantRight(t, api.Head{Tag: 1, Len: length, Map: 1 << bit}, e)
			wantRight(t, api.Head{Tag: 200, Len: length, Map: 1 << bit}, e)
			wantRight(t, api.Head{Tag: 255, Len: length, Map: 1 << bit}, api.ErrKind)
		}
		below := uint64(1)<<length - 1
		wantRight(t, api.Head{Tag: 9, Len: length, Map: below}, api.OK)
		wantRight(t, api.Head{Tag: 9, Len: length, Map: below | 1<<length}, api.ErrKind)
		for _, bit := range []int{31, 32, 63} {
			wantRight(t, api.Head{Tag: 9, Len: length, Map: below | 1<<bit}, api.ErrKind)
		}
	}
	for _, length := range []int{0, 17, 32, 64, 65535} {
		for _, m := range []uint64{1, 2, 1 << 16, 1 << 31, 1 << 32, 1 << 63, math.MaxUint64} {
			wantRight(t, api.Head{Tag: 255, Len: length, Map: m}, api.ErrKind)
		}
	}
}

// P4.1: of several things that are wrong, the one that is named first.
func TestRightFirst(t *testing.T) {
	for _, x := range []struct {
		h api.Head
		e api.Errno
	}{
		{api.Head{Tag: 0, Len: 17, Map: 1 << 40}, api.ErrArg},
		{api.Head{Tag: 0, Len: 65536}, api.ErrArg},
		{api.Head{Tag: 0, Len: 0, Map: 1}, api.ErrArg},
		{api.Head{Tag: 201, Len: -1, Map: 1}, api.ErrArg},
		{api.Head{Tag: 254, Len: 65536, Map: 1}, api.ErrArg},
		{api.Head{Tag: 256, Len: 17, Map: 1 << 63}, api.ErrArg},
		{api.Head{Tag: 1, Len: -1, Map: math.MaxUint64}, api.ErrArg},
		{api.Head{Tag: 255, Len: -1, Map: 1}, api.ErrArg},
		{api.Head{Tag: 1, Len: 17, Map: 1 << 17}, api.ErrBig},
		{api.Head{Tag: 200, Len: 17, Map: 1 << 63}, api.ErrBig},
		{api.Head{Tag: 200, Len: math.MaxInt, Map: math.MaxUint64}, api.ErrBig},
		{api.Head{Tag: 255, Len: 65536, Map: 1}, api.ErrBig},
		{api.Head{Tag: 255, Len: 65535, Map: 1}, api.ErrKind},
		{api.Head{Tag: 255, Len: 17, Map: 1}, api.ErrKind},
		{api.Head{Tag: 1, Len: 16, Map: 1 << 16}, api.ErrKind},
	} {
		wantRight(t, x.h, x.e)
	}
}

// P4.1: all tags, lengths and maps of the edges together.
func TestRightMeasured(t *testing.T) {
	for h := range heads {
		wantRight(t, h, measured(h))
	}
}

// P4.1: words, digit by digit.
func TestWord(t *testing.T) {
	for _, x := range []struct {
		h api.Head
		w uint64
	}{
		{api.Head{Tag: 1, Len: 2, Map: 2}, 0x01000002_00000002},
		{api.Head{Tag: 1}, 0x01000000_00000000},
		{api.Head{Tag: 200}, 0xc8000000_00000000},
		{api.Head{Tag: 200, Len: 16, Map: 0xffff}, 0xc8000010_0000ffff},
		{api.Head{Tag: 7, Len: 16, Map: 0x8001}, 0x07000010_00008001},
		{api.Head{Tag: 128, Len: 1, Map: 1}, 0x80000001_00000001},
		{api.Head{Tag: 255}, 0xff000000_00000000},
		{api.Head{Tag: 255, Len: 17}, 0xff000011_00000000},
		{api.Head{Tag: 255, Len: 65535}, 0xff00ffff_00000000},
	} {
		wantRight(t, x.h, api.OK)
		if w, e := head.Word(x.h); w != x.w || e != api.OK {
			t.Errorf("Word(%+v): got %#x, %d, want %#x", x.h, w, e, x.w)
		}
		wantTake(t, x.w, x.h, api.OK)
	}
}

// P4.1: words that are no right head's.
func TestTakeNoHead(t *testing.T) {
	for _, w := range []uint64{
		0,
		1,
		0x00000002_00000002, // tag 0
		0xc9000000_00000000, // tag 201
		0xfe000000_00000000, // tag 254
		0x01000011_00000000, // 17 fields
		0x0100ffff_00000000,
		0x01010000_00000000, // 65536 fields
		0x01ffffff_00000000,
		0x01800000_00000000,
		0xff010000_00000000, // a filler of 65536
		0xffffffff_00000000,
		0xff800000_00000000,
		0xff000000_00000001, // a filler with a pointer
		0xff000010_80000000,
		0x01000000_00000001, // a bit at the length
		0x01000002_00000004,
		0x01000010_00010000,
		0x01000010_80000000,
		math.MaxUint64,
	} {
		wantTake(t, w, api.Head{}, api.ErrForm)
	}
}

// apart takes a word apart by division, and tells whether it is a right head's.
func apart(w uint64) (api.Head, api.Errno) {
	h := api.Head{Tag: int(w / 72057594037927936), Len: int(w / 4294967296 % 16777216), Map: w % 4294967296}
	if measured(h) != api.OK {
		return api.Head{}, api.ErrForm
	}
	return h, api.OK
}

// P4.1: words all over, with tags that may be and such that may not.
func TestTakeMeasured(t *testing.T) {
	for i, w := range mixed(20000) {
		h, e := apart(w)
		wantTake(t, w, h, e)
		// Few of all words are a head's: small lengths and maps, so that more of them are.
		w = uint64(i%256)<<56 | w>>20%20<<32 | w>>40%(1<<(w%18))
		h, e = apart(w)
		wantTake(t, w, h, e)
	}
}

// P4.1 and P4.3: a right head's word with one bit changed is another head's, or none's.
func TestTakeOneBitOff(t *testing.T) {
	for h := range heads {
		if measured(h) != api.OK {
			continue
		}
		w := word(h)
		for bit := range 64 {
			off := w ^ 1<<bit
			k, e := apart(off)
			wantTake(t, off, k, e)
			if k == h {
				t.Fatalf("Take(%#x) and Take(%#x): both %+v", w, off, h)
			}
		}
	}
}

// P4.2: words in all, of objects of all lengths and of fillers.
func TestWords(t *testing.T) {
	want := [...]int{2, 3, 4, 5, 6, 7, 8, 9, 10, 11, 12, 13, 14, 15, 16, 17, 18}
	for length, n := range want {
		for tag := 1; tag <= 200; tag++ {
			for _, m := range []uint64{0, 1<<length - 1} {
				if got := head.Words(api.Head{Tag: tag, Len: length, Map: m}); got != n {
					t.Fatalf("Words of tag %d, length %d: got %d, want %d", tag, length, got, n)
				}
			}
		}
	}
	for length := range 65536 {
		if got := head.Words(api.Head{Tag: 255, Len: length}); got != length+1 {
			t.Fatalf("Words of a filler of %d: got %d", length, got)
		}
	}
}

// P4.2: pointers, field by field: all maps of short objects, and maps at the edges of all right heads.
func TestPointer(t *testing.T) {
	for length := range 11 {
		for m := range uint64(1) << length {
			wantPointers(t, api.Head{Tag: 5, Len: length, Map: m})
		}
	}
	for h := range heads {
		if measured(h) == api.OK {
			wantPointers(t, h)
		}
	}
	for _, m := range mixed(2000) {
		wantPointers(t, api.Head{Tag: 200, Len: 16, Map: m % 65536})
	}
}

// wantPointers asks for each field, for such that aren't there, and for all.
func wantPointers(t *testing.T, h api.Head) {
	t.Helper()
	var all []int
	for i := range h.Len {
		is := i < 64 && has(h.Map, i)
		if is {
			all = append(all, i)
		}
		if got := head.Pointer(h, i); got != is {
			t.Fatalf("Pointer(%+v, %d): got %v", h, i, got)
		}
	}
	if got := head.Pointers(h); !slices.Equal(got, all) {
		t.Fatalf("Pointers(%+v): got %v, want %v", h, got, all)
	}
	for _, i := range append([]int{h.Len, h.Len + 1}, fields...) {
		if (i < 0 || i >= h.Len) && head.Pointer(h, i) {
			t.Fatalf("Pointer(%+v, %d): got true", h, i)
		}
	}
}

// P4.2: i at the edges.
func TestPointerEdges(t *testing.T) {
	for _, x := range []struct {
		h    api.Head
		i    int
		want bool
	}{
		{api.Head{Tag: 1, Len: 2, Map: 2}, 0, false},
		{api.Head{Tag: 1, Len: 2, Map: 2}, 1, true},
		{api.Head{Tag: 1, Len: 2, Map: 2}, 2, false},
		{api.Head{Tag: 1, Len: 2, Map: 2}, -1, false},
		{api.Head{Tag: 1, Len: 2, Map: 3}, 65, false},
		{api.Head{Tag: 1, Len: 16, Map: 0xffff}, 0, true},
		{api.Head{Tag: 1, Len: 16, Map: 0xffff}, 15, true},
		{api.Head{Tag: 1, Len: 16, Map: 0xffff}, 16, false},
		{api.Head{Tag: 1, Len: 16, Map: 0xffff}, 31, false},
		{api.Head{Tag: 1, Len: 16, Map: 0xffff}, 32, false},
		{api.Head{Tag: 1, Len: 16, Map: 0xffff}, 63, false},
		{api.Head{Tag: 1, Len: 16, Map: 0xffff}, 64, false},
		{api.Head{Tag: 1, Len: 16, Map: 0xffff}, math.MaxInt, false},
		{api.Head{Tag: 1, Len: 16, Map: 0xffff}, math.MinInt, false},
		{api.Head{Tag: 1, Len: 16, Map: 0x8000}, 15, true},
		{api.Head{Tag: 1, Len: 16, Map: 0x8000}, 14, false},
		{api.Head{Tag: 1}, 0, false},
		{api.Head{Tag: 1}, -1, false},
		{api.Head{Tag: 255, Len: 65535}, 0, false},
		{api.Head{Tag: 255, Len: 65535}, 31, false},
		{api.Head{Tag: 255, Len: 65535}, 64, false},
		{api.Head{Tag: 255, Len: 65535}, 65534, false},
	} {
		if got := head.Pointer(x.h, x.i); got != x.want {
			t.Errorf("Pointer(%+v, %d): got %v", x.h, x.i, got)
		}
	}
}

// P4.2 and R3: what was told stays as it is, whatever is done with another answer.
func TestPointersAnew(t *testing.T) {
	h := api.Head{Tag: 3, Len: 16, Map: 0x8421}
	first := head.Pointers(h)
	second := head.Pointers(h)
	for i := range second {
		second[i] = -7
	}
	_ = append(second[:0], 1, 2, 3)
	if want := []int{0, 5, 10, 15}; !slices.Equal(first, want) || !slices.Equal(head.Pointers(h), want) {
		t.Error(first, head.Pointers(h))
	}
}

// P4.3: each right head's word is taken as it was, and no two have one word: all objects of up to 9 fields, all fillers, all tags with maps at the edges.
func TestTakenAsItWas(t *testing.T) {
	owner := map[uint64]api.Head{}
	check := func(h api.Head) {
		w, e := head.Word(h)
		if k, known := owner[w]; known && k != h || e != api.OK {
			t.Fatalf("Word(%+v): got %#x, %d; it is %+v's, too", h, w, e, k)
		}
		owner[w] = h
		if k, e := head.Take(w); k != h || e != api.OK {
			t.Fatalf("Take(Word(%+v)): got %+v, %d", h, k, e)
		}
	}
	for length := range 10 {
		for m := range uint64(1) << length {
			for tag := 1; tag <= 200; tag += 199 {
				check(api.Head{Tag: tag, Len: length, Map: m})
			}
		}
	}
	for length := range 65536 {
		check(api.Head{Tag: 255, Len: length})
	}
	for tag := 1; tag <= 200; tag++ {
		for length := range 17 {
			for bit := range length + 1 {
				check(api.Head{Tag: tag, Len: length, Map: 1<<bit - 1})
				check(api.Head{Tag: tag, Len: length, Map: 1 << bit % (1 << length)})
			}
		}
	}
	for _, m := range mixed(2000) {
		check(api.Head{Tag: 1 + int(m>>16%200), Len: 16, Map: m % 65536})
	}
}

// P4.3: what was taken has the word that it was taken from.
func TestWordOfWhatWasTaken(t *testing.T) {
	found := 0
	for _, x := range mixed(50000) {
		w := x>>8<<56 | x>>16%17<<32 | x>>24%(1<<(x>>16%17+x>>22%2))
		h, e := head.Take(w)
		if e != api.OK {
			continue
		}
		found++
		if got, e := head.Word(h); got != w || e != api.OK {
			t.Fatalf("Word(Take(%#x)): got %#x, %d", w, got, e)
		}
	}
	if found < 5000 {
		t.Errorf("only %d words of a head were tried", found)
	}
}

// R1: of heads that aren't right nothing is promised, but that every call ends.
func TestEveryCallEnds(t *testing.T) {
	for h := range heads {
		head.Words(h)
		head.Pointers(h)
		for _, i := range fields {
			head.Pointer(h, i)
		}
	}
}
