package twin_test

import (
	"math"
	"slices"
	"testing"

	"dovecote/api"
	"dovecote/buf"
	"dovecote/object"
	"dovecote/twin"
)

// address is the measure: told by whole numbers, not by the layers below. So are all measures here.
func address(space, at int) uint64 { return uint64(space+1)*4294967296 + uint64(at) }

// first is a head's word.
func first(h api.Head) uint64 {
	return uint64(h.Tag)*72057594037927936 + uint64(h.Len)*4294967296 + h.Map
}

// fields is the head of an object of so many: every number of them has a tag and pointers of its own.
func fields(n int) api.Head { return api.Head{Tag: 200 - 12*n, Len: n, Map: 0x5a5a5 & (1<<n - 1)} }

// filler is the head of a filler of so many words.
func filler(n int) api.Head { return api.Head{Tag: 255, Len: n - 1} }

// marked is memory in which no two words are the same, none is 0, none is a head's, and none an address.
func marked(words int) api.Mem {
	m := api.Mem{Words: words}
	for space := range 2 {
		for at := range words {
			m.Sp[space] = append(m.Sp[space], uint64(space)<<63+uint64(1000+at))
		}
	}
	return m
}

// room is one of marked memory: where the space of twins goes on.
func room(words, space, at int) api.Room {
	return api.Room{M: marked(words), B: api.Bump{Space: space, At: at, Limit: words}}
}

// pieces are what T may be, where the space goes on at a place: of a thread, or none; it is all one to twins.
func pieces(at int) []api.Buf {
	return []api.Buf{{}, {At: 0, End: at}, {At: at / 2, End: at}, {At: at / 3, End: at / 2}, {At: at, End: at}}
}

// put writes a head and the word of its twin into a room itself; the fields are what was there.
func put(x api.Room, a uint64, h api.Head, words ...uint64) uint64 {
	copy(x.M.Sp[a/4294967296-1][a%4294967296:], append([]uint64{first(h)}, words...))
	return a
}

// twice is a room once more, which shares nothing with it.
func twice(x api.Room) api.Room {
	for space, l := range x.M.Sp {
		x.M.Sp[space] = slices.Clone(l)
	}
	return x
}

// alike: are two rooms the same, word by word?
func alike(x, y api.Room) bool {
	for space := range 2 {
		if !slices.Equal(x.M.Sp[space], y.M.Sp[space]) {
			return false
		}
	}
	return x.M.Words == y.M.Words && x.B == y.B && x.T == y.T
}

// words are n words from an address on.
func words(x api.Room, a uint64, n int) []uint64 {
	return x.M.Sp[a/4294967296-1][a%4294967296:][:n]
}

// fits: are n words there from an address on?
func fits(x api.Room, a uint64, n int) bool {
	space, at := a/4294967296, a%4294967296
	return (space == 1 || space == 2) && at < uint64(x.M.Words) && at+uint64(n) <= uint64(x.M.Words)
}

// owner is the head at an address, or chapter 5's error of Twin.
func owner(x api.Room, a uint64) (api.Head, api.Errno) {
	if !fits(x, a, 1) {
		return api.Head{}, api.ErrSpace
	}
	w := words(x, a, 1)[0]
	h := api.Head{Tag: int(w / 72057594037927936), Len: int(w / 4294967296 % 16777216), Map: w % 4294967296}
	n, is := h.Len+2, h.Tag >= 1 && h.Tag <= 200 && h.Len <= 16 && h.Map>>h.Len == 0
	if h.Tag == 255 {
		n, is = h.Len+1, h.Len <= 65535 && h.Map == 0
	}
	switch {
	case !is:
		return api.Head{}, api.ErrForm
	case !fits(x, a, n):
		return api.Head{}, api.ErrSpace
	case h.Tag == 255:
		return api.Head{}, api.ErrKind
	}
	return h, api.OK
}

// over: is an address over there? All places of the space count, there or not.
func over(x api.Room, a uint64) bool {
	return a >= address(x.B.Space, 0) && a-address(x.B.Space, 0) <= 4294967295
}

// to is what To must answer of a right room.
func to(x api.Room, a uint64) (api.Room, uint64, api.Errno) {
	if a == 0 {
		return x, 0, api.OK
	}
	h, e := owner(x, a)
	if e != api.OK {
		return x, 0, e
	}
	if over(x, a) {
		return x, a, api.OK
	}
	if w := words(x, a, 2)[1]; w != 0 {
		if over(x, w) {
			return x, w, api.OK
		}
		return x, 0, api.ErrForm
	}
	n := h.Len + 2
	if x.B.Limit-x.B.At < n {
		return x, 0, api.ErrFull
	}
	x = twice(x)
	b := address(x.B.Space, x.B.At)
	for i, w := range words(x, a, n) {
		words(x, b, n)[i] = w
	}
	words(x, b, n)[1], words(x, a, n)[1] = 0, b
	x.B.At += n
	return x, b, api.OK
}

// made is what Made must answer of a right room.
func made(x api.Room, a uint64) bool {
	if a == 0 {
		return true
	}
	_, e := owner(x, a)
	return e == api.OK && (over(x, a) || words(x, a, 2)[1] != 0)
}

// each is what Each must answer of a right room.
func each(x api.Room, l []uint64) (api.Room, []uint64, api.Errno) {
	var twins []uint64
	for _, a := range l {
		then, b, e := to(x, a)
		if e != api.OK {
			return x, nil, e
		}
		x, twins = then, append(twins, b)
	}
	return x, twins, api.OK
}

// wantTo holds To against its measure, what was handed in against what it was, and Made, ahead of it and behind.
func wantTo(t *testing.T, x api.Room, a uint64) (api.Room, uint64, api.Errno) {
	t.Helper()
	before := twice(x)
	want, c, f := to(before, a)
	wantMade(t, x, a, made(before, a))
	got, b, e := twin.To(x, a)
	if !alike(got, want) || b != c || e != f {
		t.Fatalf("To(%+v, %#x): got %+v, %#x, %d, want %+v, %#x, %d", before, a, got, b, e, want, c, f)
	}
	if !alike(x, before) {
		t.Fatalf("To(%+v, %#x): what was handed in is %+v", before, a, x)
	}
	if !buf.Right(got) {
		t.Fatalf("To(%+v, %#x): got %+v, which isn't right", before, a, got)
	}
	if e == api.OK {
		wantMade(t, got, a, true)
	}
	return got, b, e
}

func wantMade(t *testing.T, x api.Room, a uint64, want bool) {
	t.Helper()
	before := twice(x)
	if got := twin.Made(x, a); got != want || !alike(x, before) {
		t.Fatalf("Made(%+v, %#x): got %v, and what was handed in is %+v", before, a, got, x)
	}
}

// wantEach holds Each against its measure; the row has room behind its end, which is somebody else's.
func wantEach(t *testing.T, x api.Room, l []uint64) (api.Room, []uint64, api.Errno) {
	t.Helper()
	before, in := twice(x), slices.Clone(l)
	if l != nil {
		l = append(slices.Clone(l), 77, 78, 79)[:len(l)]
	}
	want, c, f := each(before, in)
	got, b, e := twin.Each(x, l)
	if !alike(got, want) || !slices.Equal(b, c) || e != f {
		t.Fatalf("Each(%+v, %#x): got %+v, %#x, %d, want %+v, %#x, %d", before, in, got, b, e, want, c, f)
	}
	if !alike(x, before) || !slices.Equal(l, in) || l != nil && !slices.Equal(l[:len(l)+3][len(l):], []uint64{77, 78, 79}) {
		t.Fatalf("Each(%+v, %#x): what was handed in is %+v, %#x", before, in, x, l)
	}
	if !buf.Right(got) {
		t.Fatalf("Each(%+v, %#x): got %+v, which isn't right", before, in, got)
	}
	return got, b, e
}

// outside are addresses that aren't there in memory of so many words, and such as are no address (0 isn't one of these here).
func outside(words int) []uint64 {
	l := []uint64{1, 5, uint64(words), 0xffffffff, address(2, 0), address(2, 5), address(3, 0), 1 << 63, 1<<63 + address(0, 3), 1<<40 + address(1, 3), math.MaxUint64 - 1<<32, math.MaxUint64}
	for space := range 2 {
		for _, at := range []int{words, words + 1, 2 * words, 4096, 4097, 1 << 31, 1<<32 - 1} {
			l = append(l, address(space, at))
		}
	}
	return l
}

// overThere are words that are over there, as long as it is a place, whether memory has so many words or not.
func overThere(space, words int) []uint64 {
	return []uint64{address(space, 0), address(space, 1), address(space, words-1), address(space, words), address(space, words+1), address(space, 1<<31), address(space, 1<<32-1)}
}

// notOverThere are words that aren't, and aren't 0.
func notOverThere(space, words int) []uint64 {
	l := overThere(1-space, words)
	return append(l, 1, 2, 0xffffffff, address(2, 0), address(2, 3), address(3, 0), 1<<63, 1<<63+address(space, 0), 1<<34+address(space, 0), math.MaxUint64)
}

// P11.1: the example: an object at (0, 0), B at the beginning of 1: To is (1, 0); once more it is that, too.
func TestExample(t *testing.T) {
	x := room(16, 1, 0)
	x.M.Sp[0][0], x.M.Sp[0][1] = 0x07000002_00000002, 0
	if twin.Made(x, 0x1_00000000) {
		t.Errorf("Made: it has no twin yet")
	}
	got, b, e := twin.To(x, 0x1_00000000)
	if b != 0x2_00000000 || e != 0 || got.B != (api.Bump{Space: 1, At: 4, Limit: 16}) || got.T != (api.Buf{}) || got.M.Words != 16 {
		t.Errorf("To: got %#x, %d, %+v", b, e, got)
	}
	want := twice(x).M.Sp
	want[0][1] = 0x2_00000000
	copy(want[1], []uint64{0x07000002_00000002, 0, 1002, 1003})
	if !slices.Equal(got.M.Sp[0], want[0]) || !slices.Equal(got.M.Sp[1], want[1]) {
		t.Errorf("To: got %#x", got.M.Sp)
	}
	if !twin.Made(got, 0x1_00000000) || !twin.Made(got, 0x2_00000000) {
		t.Errorf("Made: it has a twin, and is one")
	}
	again, b, e := twin.To(got, 0x1_00000000)
	if b != 0x2_00000000 || e != 0 || !alike(again, got) {
		t.Errorf("To once more: got %#x, %d, %+v", b, e, again)
	}
	again, l, e := twin.Each(x, []uint64{0x1_00000000, 0, 0x1_00000000, 0x2_00000000})
	if !slices.Equal(l, []uint64{0x2_00000000, 0, 0x2_00000000, 0x2_00000000}) || e != 0 || !alike(again, got) {
		t.Errorf("Each: got %#x, %d, %+v", l, e, again)
	}
}

// P11.1: To of 0 is 0, whatever the room, also where no word is left.
func TestNothing(t *testing.T) {
	for space := range 2 {
		for _, at := range []int{0, 1, 9, 19, 20} {
			for _, piece := range pieces(at) {
				x := room(20, space, at)
				x.T = piece
				if got, b, e := wantTo(t, x, 0); b != 0 || e != api.OK || !alike(got, x) {
					t.Errorf("To of 0: got %+v, %#x, %d", got, b, e)
				}
				wantMade(t, x, 0, true)
			}
		}
	}
}

// wantRefused: To is refused by this error, in the room as it is and where no word is left, and Made says no.
func wantRefused(t *testing.T, x api.Room, a uint64, f api.Errno) {
	t.Helper()
	for _, at := range []int{x.B.At, x.B.Limit} {
		x.B.At = at
		if got, b, e := wantTo(t, x, a); b != 0 || e != f || !alike(got, x) {
			t.Errorf("To(%+v, %#x): got %+v, %#x, %d, want error %d", x, a, got, b, e, f)
		}
		wantMade(t, x, a, false)
		if got, l, e := wantEach(t, x, []uint64{a}); len(l) != 0 || e != f || !alike(got, x) {
			t.Errorf("Each(%+v, %#x): got %+v, %#x, %d, want error %d", x, a, got, l, e, f)
		}
	}
}

// P11.1: chapter 5's errors of Twin, in either space, ahead of all others: addresses that aren't there, words that are no head's,
// objects and fillers whose words end behind the space, fillers.
func TestRefused(t *testing.T) {
	for _, n := range []int{16, 17, 40, 4096} {
		for space := range 2 {
			for _, a := range outside(n) {
				wantRefused(t, room(n, space, 3), a, api.ErrSpace)
			}
		}
	}
	for space := range 2 {
		for here := range 2 {
			for _, at := range []int{0, 5, 39} {
				a := address(here, at)
				x := room(40, space, 20)
				wantRefused(t, x, a, api.ErrForm)
				for _, w := range []uint64{0, 1, address(space, 0), first(fields(1)) + 2, first(api.Head{Tag: 201}), first(api.Head{Tag: 0, Len: 1}), first(api.Head{Tag: 254}), first(api.Head{Tag: 1, Len: 17}), first(api.Head{Tag: 255, Len: 1, Map: 1}), math.MaxUint64} {
					x.M.Sp[here][at] = w
					wantRefused(t, x, a, api.ErrForm)
				}
			}
			for n := range 17 {
				x := room(40, space, 20)
				// One word of it is behind the space.
				wantRefused(t, x, put(x, address(here, 39-n), fields(n)), api.ErrSpace)
			}
			x := room(40, space, 20)
			wantRefused(t, x, put(x, address(here, 30), filler(11)), api.ErrSpace)
			wantRefused(t, x, put(x, address(here, 31), filler(65536)), api.ErrSpace)
			for _, at := range []int{0, 5, 30} {
				for _, n := range []int{1, 2, 3, 10} {
					// What would be the word of its twin is the filler's, or another one's.
					for _, w := range []uint64{0, address(space, 0), address(1-space, 0), 5} {
						x := room(40, space, 20)
						wantRefused(t, x, put(x, address(here, at), filler(n), w), api.ErrKind)
					}
				}
			}
		}
	}
}

// wantThere: To is this address, nothing is changed, in the room as it is and where no word is left; and Made says yes.
func wantThere(t *testing.T, x api.Room, a, c uint64) {
	t.Helper()
	for _, at := range []int{x.B.At, x.B.Limit} {
		x.B.At = at
		if got, b, e := wantTo(t, x, a); b != c || e != api.OK || !alike(got, x) {
			t.Errorf("To(%+v, %#x): got %+v, %#x, %d, want %#x", x, a, got, b, e, c)
		}
		wantMade(t, x, a, true)
	}
}

// P11.1: an object that is over there is its own twin, whatever the word of its twin is, and wherever it stands.
func TestOverThere(t *testing.T) {
	for space := range 2 {
		for _, n := range []int{0, 1, 2, 16} {
			for _, at := range []int{0, 1, 20, 38 - n} {
				l := append(overThere(space, 40), notOverThere(space, 40)...)
				for _, w := range append(l, 0, address(space, at)) {
					x := room(40, space, 19)
					x.T = api.Buf{At: 4, End: 9}
					a := put(x, address(space, at), fields(n), w)
					wantThere(t, x, a, a)
				}
			}
		}
	}
}

// P11.1: an object whose twin is there already: that, wherever it is over there, also behind the words of memory.
func TestTwinIsThere(t *testing.T) {
	for space := range 2 {
		for n := range 17 {
			for _, at := range []int{0, 7, 38 - n} {
				for _, w := range overThere(space, 40) {
					x := room(40, space, 19)
					x.T = api.Buf{At: 4, End: 9}
					wantThere(t, x, put(x, address(1-space, at), fields(n), w), w)
				}
			}
		}
	}
}

// P11.1: an object whose twin isn't over there: ErrForm, ahead of ErrFull; but for Made it has one.
func TestTwinIsElsewhere(t *testing.T) {
	for space := range 2 {
		for n := range 17 {
			for _, at := range []int{0, 7, 38 - n} {
				for _, w := range append(notOverThere(space, 40), address(1-space, at)) {
					for _, goes := range []int{19, 40 - n - 1, 40} {
						x := room(40, space, goes)
						x.T = api.Buf{At: 4, End: 9}
						a := put(x, address(1-space, at), fields(n), w)
						if got, b, e := wantTo(t, x, a); b != 0 || e != api.ErrForm || !alike(got, x) {
							t.Errorf("To, where the twin is %#x: got %+v, %#x, %d", w, got, b, e)
						}
						wantMade(t, x, a, true)
					}
				}
			}
		}
	}
}

// P11.1, P11.3: objects of every number of fields: so many words as there are left, one more, one less, none; in either space, from
// its beginning on and further on. The twin has the head and the fields, and no twin.
func TestMakesTwins(t *testing.T) {
	for n := range 17 {
		for space := range 2 {
			for _, left := range []int{0, 1, n, n + 1, n + 2, n + 3, 39, 40} {
				for _, at := range []int{0, 1, 21, 38 - n} {
					for _, piece := range pieces(40 - left) {
						x := room(40, space, 40-left)
						x.T = piece
						a := put(x, address(1-space, at), fields(n), 0)
						got, b, e := wantTo(t, x, a)
						if left < n+2 {
							if b != 0 || e != api.ErrFull || !alike(got, x) {
								t.Fatalf("To of %d words, where %d are left: got %+v, %#x, %d", n+2, left, got, b, e)
							}
							wantMade(t, x, a, false)
							continue
						}
						if b != address(space, 40-left) || e != api.OK || got.B != (api.Bump{Space: space, At: 40 - left + n + 2, Limit: 40}) || got.T != piece {
							t.Fatalf("To of %d words, where %d are left: got %+v, %#x, %d", n+2, left, got, b, e)
						}
						wantTwin(t, x, got, a, b)
					}
				}
			}
		}
	}
}

// wantTwin: b is the twin of a, made since the room x: it has the head and the fields that a had, and has, and no twin; so chapter 5 tells.
func wantTwin(t *testing.T, x, got api.Room, a, b uint64) {
	t.Helper()
	h, _ := owner(x, a)
	for _, c := range []uint64{a, b} {
		if k, e := object.At(got.M, c); k != h || e != api.OK {
			t.Fatalf("At %#x: got %+v, %d, want %+v", c, k, e, h)
		}
		for i, v := range words(x, a, h.Len+2)[2:] {
			if w, _, e := object.Get(got.M, c, i); w != v || e != api.OK {
				t.Fatalf("Get %#x, %d: got %#x, %d, want %#x", c, i, w, e, v)
			}
		}
	}
	if w, e := object.Twin(got.M, a); w != b || e != api.OK {
		t.Fatalf("Twin of %#x: got %#x, %d, want %#x", a, w, e, b)
	}
	if w, e := object.Twin(got.M, b); w != 0 || e != api.OK {
		t.Fatalf("Twin of the twin %#x: got %#x, %d", b, w, e)
	}
	for _, c := range []uint64{a, b, a} {
		wantThere(t, got, c, b)
	}
}

// P11.1: memory of as few words as may be, and of as many: objects at the ends, twins at the ends.
func TestEndsOfSpaces(t *testing.T) {
	for _, all := range []int{16, 4096} {
		for _, n := range []int{0, 1, 13, 14, 16} {
			if n+2 > all {
				continue
			}
			for space := range 2 {
				for _, at := range []int{0, all - n - 2} {
					for _, goes := range []int{0, 1, all - n - 3, all - n - 2, all - n - 1, all} {
						x := room(all, space, max(goes, 0))
						a := put(x, address(1-space, at), fields(n), 0)
						if got, b, e := wantTo(t, x, a); e == api.OK {
							wantTwin(t, x, got, a, b)
						} else if e != api.ErrFull || goes+n+2 <= all {
							t.Fatalf("To of %d words at %d of %d: got %d", n+2, goes, all, e)
						}
					}
				}
			}
		}
	}
}

// P11.1: told word by word: an object among others, a twin among others.
func TestWordByWord(t *testing.T) {
	x := api.Room{
		M: api.Mem{Words: 16, Sp: [2][]uint64{
			{0x01000001_00000001, 0x1_00000009, 0x2_00000003, 0x02000002_00000000, 0x1_00000000, 88, 99, 7, 7, 7, 7, 7, 7, 7, 7, 7},
			{0x03000000_00000000, 0, 5, 0x04000003_00000005, 0, 0x1_00000000, 0xffffffff_ffffffff, 0x2_00000003, 0xff000007_00000000, 6, 6, 6, 6, 6, 6, 6},
		}},
		B: api.Bump{Space: 0, At: 7, Limit: 16},
		T: api.Buf{At: 2, End: 7},
	}
	want := twice(x)
	copy(want.M.Sp[0][7:], []uint64{0x04000003_00000005, 0, 0x1_00000000, 0xffffffff_ffffffff, 0x2_00000003})
	want.M.Sp[1][4] = 0x1_00000007
	want.B.At = 12
	got, b, e := twin.To(x, 0x2_00000003)
	if b != 0x1_00000007 || e != api.OK || !alike(got, want) {
		t.Errorf("To: got %+v, %#x, %d", got, b, e)
	}
	copy(want.M.Sp[0][12:], []uint64{0x03000000_00000000, 0})
	want.M.Sp[1][1] = 0x1_0000000c
	want.B.At = 14
	got, l, e := twin.Each(x, []uint64{0x2_00000003, 0x1_00000003, 0, 0x2_00000000, 0x2_00000003, 0x1_00000000})
	if !slices.Equal(l, []uint64{0x1_00000007, 0x1_00000003, 0, 0x1_0000000c, 0x1_00000007, 0x1_00000000}) || e != api.OK || !alike(got, want) {
		t.Errorf("Each: got %+v, %#x, %d", got, l, e)
	}
}

// mixed is a room with a bit of all in it, and the addresses of these: nothing; objects of 0, 1 and 16 fields without a twin; objects with
// a twin over there, and behind memory over there; objects with a twin elsewhere; fillers; words that are no head's, and such as end behind
// the space; objects, fillers and other words over there; addresses that aren't there.
func mixed(space, at int) (api.Room, []uint64) {
	x := room(64, space, at)
	here := 1 - space
	return x, []uint64{
		0,
		put(x, address(here, 0), fields(0), 0), put(x, address(here, 2), fields(16), 0), put(x, address(here, 20), fields(1), 0), put(x, address(here, 59), fields(3), 0),
		put(x, address(here, 23), fields(1), address(space, 0)), put(x, address(here, 26), fields(2), address(space, 64)),
		put(x, address(here, 30), fields(0), address(here, 0)), put(x, address(here, 32), fields(0), 3),
		put(x, address(here, 34), filler(3), address(space, 0), 0), put(x, address(here, 37), filler(1)),
		address(here, 40), put(x, address(here, 49), fields(15), 0), put(x, address(here, 45), filler(20), 0),
		put(x, address(space, 0), fields(1), 0), put(x, address(space, 3), fields(1), address(space, 0)), put(x, address(space, 6), fields(0), address(here, 0)),
		put(x, address(space, 8), filler(2), 0), address(space, 10), put(x, address(space, 12), fields(1), 0),
		address(here, 64), address(space, 64), 7,
	}
}

// P11.1, P11.2: a room with a bit of all in it: each address of it, as the document tells it, and not as a measure does.
func TestMixedTold(t *testing.T) {
	for space := range 2 {
		x, l := mixed(space, 20)
		ok, there := api.OK, address(space, 20)
		for i, want := range []struct {
			b uint64
			e api.Errno
			m bool
		}{
			{0, ok, true},
			{there, ok, false}, {there, ok, false}, {there, ok, false}, {there, ok, false},
			{address(space, 0), ok, true}, {address(space, 64), ok, true},
			{0, api.ErrForm, true}, {0, api.ErrForm, true},
			{0, api.ErrKind, false}, {0, api.ErrKind, false},
			{0, api.ErrForm, false}, {0, api.ErrSpace, false}, {0, api.ErrSpace, false},
			{l[14], ok, true}, {l[15], ok, true}, {l[16], ok, true},
			{0, api.ErrKind, false}, {0, api.ErrForm, false}, {l[19], ok, true},
			{0, api.ErrSpace, false}, {0, api.ErrSpace, false}, {0, api.ErrSpace, false},
		} {
			wantMade(t, x, l[i], want.m)
			if _, b, e := wantTo(t, x, l[i]); b != want.b || e != want.e {
				t.Errorf("%d: To of %#x: got %#x, %d, want %#x, %d", i, l[i], b, e, want.b, want.e)
			}
			_, k, e := wantEach(t, x, []uint64{l[i]})
			if e != want.e || e == ok && (len(k) != 1 || k[0] != want.b) || e != ok && len(k) != 0 {
				t.Errorf("%d: Each of %#x: got %#x, %d, want %#x, %d", i, l[i], k, e, want.b, want.e)
			}
		}
	}
}

// P11.1, R3: that room, wherever its space goes on: every address that is there, amid objects, too, and those that aren't.
func TestMeasured(t *testing.T) {
	for space := range 2 {
		for at := range 65 {
			x, _ := mixed(space, at)
			x.T = pieces(at)[at%5]
			for here := range 2 {
				for i := range 64 {
					wantTo(t, x, address(here, i))
				}
			}
			for _, a := range outside(64) {
				wantTo(t, x, a)
			}
		}
	}
}

// P11.2: none, nil, too: the room as it is, also where no word is left.
func TestEachOfNone(t *testing.T) {
	for space := range 2 {
		for _, at := range []int{0, 20, 64} {
			x, _ := mixed(space, at)
			x.T = pieces(at)[2]
			for _, l := range [][]uint64{nil, {}} {
				if got, k, e := wantEach(t, x, l); !alike(got, x) || len(k) != 0 || e != api.OK {
					t.Errorf("Each of none: got %+v, %#x, %d", got, k, e)
				}
			}
		}
	}
}

// P11.2: every row of two and of three addresses of the room with a bit of all: the same ones, too, and errors at each place.
func TestEachMeasured(t *testing.T) {
	for space := range 2 {
		for _, at := range []int{20, 46, 59, 64} {
			x, l := mixed(space, at)
			x.T = pieces(at)[at%5]
			for _, a := range l {
				for _, b := range l {
					wantEach(t, x, []uint64{a, b})
					for _, c := range l[:15] {
						wantEach(t, x, []uint64{a, c, b})
					}
				}
			}
		}
	}
}

// P11.2: the same one twice, an object and its twin, told at their places.
func TestEachOnce(t *testing.T) {
	for space := range 2 {
		x, l := mixed(space, 20)
		one, two := l[3], l[1]
		for _, k := range []struct{ l, want []int }{
			{[]int{1}, []int{20}},
			{[]int{1, 1}, []int{20, 20}},
			{[]int{1, 2}, []int{20, 23}},
			{[]int{2, 1}, []int{22, 20}},
			{[]int{1, 2, 1, 2, 1}, []int{20, 23, 20, 23, 20}},
			{[]int{2, 1, 0, 1, 2, 0}, []int{22, 20, -1, 22, 20, -1}},
		} {
			var row, want []uint64
			for _, i := range k.l {
				row = append(row, []uint64{0, one, two}[i])
			}
			at := map[uint64]uint64{0: 0}
			next := 20
			for _, a := range row {
				if _, is := at[a]; !is {
					at[a] = address(space, next)
					next += map[uint64]int{one: 3, two: 2}[a]
				}
				want = append(want, at[a])
			}
			got, b, e := wantEach(t, x, row)
			if !slices.Equal(b, want) || e != api.OK || got.B.At != next {
				t.Errorf("Each of %#x: got %#x, %d, up to %d, want %#x up to %d", row, b, e, got.B.At, want, next)
			}
			// The twins are their own ones, and so is the row with them.
			both := append(slices.Clone(row), b...)
			if _, c, e := wantEach(t, x, both); !slices.Equal(c, append(slices.Clone(want), want...)) || e != api.OK {
				t.Errorf("Each of %#x: got %#x, %d", both, c, e)
			}
			if again, c, e := wantEach(t, got, both); !slices.Equal(c, append(slices.Clone(want), want...)) || e != api.OK || !alike(again, got) {
				t.Errorf("Each of %#x, where all have twins: got %#x, %d", both, c, e)
			}
		}
	}
}

// P11.2: an error at the first place, in the middle, and at the last one: what was made ahead of it is in the room, and nothing since.
func TestEachRefused(t *testing.T) {
	for space := range 2 {
		x, l := mixed(space, 20)
		x.T = api.Buf{At: 4, End: 20}
		good := []uint64{l[1], l[3], 0, l[5], l[4]}
		ends := []int{20, 22, 25, 25, 25, 30}
		for _, bad := range []struct {
			a uint64
			e api.Errno
		}{{l[7], api.ErrForm}, {l[8], api.ErrForm}, {l[9], api.ErrKind}, {l[11], api.ErrForm}, {l[12], api.ErrSpace}, {l[17], api.ErrKind}, {l[20], api.ErrSpace}, {7, api.ErrSpace}} {
			for place, end := range ends {
				row := slices.Insert(slices.Clone(good), place, bad.a)
				// Behind the first error others don't count, and nothing more is made.
				row = append(row, l[13], l[2])
				got, k, e := wantEach(t, x, row)
				if e != bad.e || len(k) != 0 || got.B.At != end || got.T != x.T {
					t.Fatalf("Each of %#x: got %+v, %#x, %d, want %d up to %d", row, got, k, e, bad.e, end)
				}
				ahead, _, e := wantEach(t, x, row[:place])
				if e != api.OK || !alike(got, ahead) {
					t.Fatalf("Each of %#x: got %+v, want %+v", row, got, ahead)
				}
				for _, a := range row[:place] {
					wantMade(t, got, a, true)
				}
			}
		}
	}
}

// P11.2: no room any more: at the first place, in the middle, at the last one; a smaller object behind it isn't asked for.
func TestEachFull(t *testing.T) {
	for space := range 2 {
		for _, k := range []struct{ at, end int }{{63, 63}, {62, 64}, {60, 62}, {59, 64}, {50, 55}, {46, 51}, {64, 64}, {42, 47}, {41, 64}} {
			x, l := mixed(space, k.at)
			got, b, e := wantEach(t, x, []uint64{l[1], l[3], l[2], l[1], l[4]})
			if e != api.ErrFull || len(b) != 0 || got.B.At != k.end {
				t.Errorf("Each from %d on: got %#x, %d, up to %d, want %d", k.at, b, e, got.B.At, k.end)
			}
		}
		x, l := mixed(space, 36)
		got, b, e := wantEach(t, x, []uint64{l[1], l[3], l[2], l[1], l[4]})
		if e != api.OK || len(b) != 5 || got.B.At != 64 {
			t.Errorf("Each from 36 on: got %#x, %d, up to %d", b, e, got.B.At)
		}
	}
}

// number is the next of a row of numbers all over, the same ones each time.
func number(seed *uint64, n int) int {
	*seed = *seed*6364136223846793005 + 1442695040888963407
	return int(*seed >> 33 % uint64(n))
}

// filled is a room whose other space is full of objects, fillers between them: the objects' addresses.
func filled(words, space, at int, seed uint64) (api.Room, []uint64) {
	x := room(words, space, at)
	var l []uint64
	for to := 0; words-to >= 2; {
		n := min(number(&seed, 17), words-to-2)
		if a := address(1-space, to); number(&seed, 5) == 0 {
			put(x, a, filler(n+2))
		} else {
			l = append(l, put(x, a, fields(n), 0))
		}
		to += n + 2
	}
	return x, l
}

// P11.3: a whole space of objects, in any order, some again, one by one and all at once: the twins stand side by side in the order
// in which they were asked for, and all are what their objects were; then each once more is the same, and the room is as it was.
// Those that have no room any more are left out.
func TestWholeSpace(t *testing.T) {
	for seed := range uint64(60) {
		all := []int{16, 17, 40, 200, 600}[seed%5]
		x, l := filled(all, int(seed/5%2), int(seed/10%4), seed)
		x.T = pieces(x.B.At)[seed%5]
		then, at, step := x, x.B.At, seed
		var asked, twins []uint64
		made := map[uint64]uint64{}
		for range 2 * len(l) {
			a := l[number(&step, len(l))]
			got, b, e := wantTo(t, then, a)
			if e == api.ErrFull {
				continue
			}
			if _, is := made[a]; !is {
				if b != address(x.B.Space, at) {
					t.Fatalf("To of %#x: got %#x, want the place %d", a, b, at)
				}
				h, _ := owner(x, a)
				made[a], at = b, at+h.Len+2
				wantTwin(t, x, got, a, b)
			}
			if b != made[a] {
				t.Fatalf("To of %#x: got %#x, it was %#x", a, b, made[a])
			}
			then, asked, twins = got, append(asked, a), append(twins, b)
		}
		got, k, e := wantEach(t, x, asked)
		if !alike(got, then) || !slices.Equal(k, twins) || e != api.OK || got.B.At != at {
			t.Fatalf("Each of %#x: got %+v, %#x, %d", asked, got, k, e)
		}
		again, k, e := wantEach(t, got, append(asked, twins...))
		if !alike(again, got) || !slices.Equal(k, append(twins, twins...)) || e != api.OK {
			t.Fatalf("Each of %#x once more: got %+v, %#x, %d", asked, again, k, e)
		}
		if all > 17 && len(made) < 2 {
			t.Fatalf("%d: so many twins were made: %d", seed, len(made))
		}
		wantEach(t, x, l)
	}
}

// P11.3: the longest space, full of the smallest objects: as many twins, and no word is left.
func TestLongSpace(t *testing.T) {
	x := room(4096, 1, 0)
	var l, want []uint64
	for at := 0; at < 4096; at += 2 {
		l = append(l, put(x, address(0, at), fields(0), 0))
		want = append(want, address(1, at))
	}
	got, k, e := wantEach(t, x, l)
	if !slices.Equal(k, want) || e != api.OK || got.B.At != 4096 {
		t.Errorf("Each of %d: got %d, up to %d", len(l), e, got.B.At)
	}
	x.B.At = 1
	got, k, e = wantEach(t, x, l)
	if len(k) != 0 || e != api.ErrFull || got.B.At != 4095 {
		t.Errorf("Each of %d from 1 on: got %d, up to %d", len(l), e, got.B.At)
	}
}

// R3: what comes out is one's own: rooms that were made of one don't see what is made in another, and a row that came out
// is none that was handed in.
func TestRoomsAreValues(t *testing.T) {
	for space := range 2 {
		x, l := mixed(space, 20)
		first := twice(x)
		rooms, before := []api.Room{x}, []api.Room{first}
		for _, a := range l {
			for _, from := range rooms[:min(len(rooms), 12)] {
				got, _, _ := twin.To(from, a)
				all, _, _ := twin.Each(from, []uint64{l[1], a, l[3]})
				rooms, before = append(rooms, got, all), append(before, twice(got), twice(all))
			}
			for i := range rooms {
				if !alike(rooms[i], before[i]) {
					t.Fatalf("a room was %+v, and is %+v", before[i], rooms[i])
				}
			}
		}
		// Writing through chapter 5 into what came out is seen nowhere else, either.
		got, twins, _ := twin.Each(x, []uint64{l[1], l[3]})
		was := twice(got)
		m, _ := object.Set(got.M, twins[1], 0, 5)
		if m.Sp[space][20+2+2] != 5 || !alike(got, was) || !alike(x, first) {
			t.Errorf("a field of a twin was set: %+v, %+v", got, x)
		}
		in := []uint64{l[14], l[15], 0}
		if _, out, e := twin.Each(x, in); e != api.OK || !slices.Equal(out, in) {
			t.Errorf("Each of %#x: got %#x, %d", in, out, e)
		} else if out[0] = 9; in[0] != l[14] {
			t.Errorf("Each told the row that was handed in")
		}
	}
}

// R4: the same once more, whatever was called between.
func TestSameOnceMore(t *testing.T) {
	x, l := mixed(1, 20)
	for _, a := range l {
		one, b, e := twin.To(x, a)
		twin.Each(one, l)
		two, c, f := twin.To(x, a)
		if !alike(one, two) || b != c || e != f {
			t.Errorf("To of %#x: got %#x, %d, and %#x, %d", a, b, e, c, f)
		}
	}
}

// R1: of rooms that aren't right nothing is promised, but that every call ends, and that what was handed in is as it was; yet what is
// refused there is so by an error of the chapter, and changes nothing.
func TestEveryCallEnds(t *testing.T) {
	x, l := mixed(0, 20)
	y, k := mixed(1, 20)
	l = append(append(l, k...), outside(64)...)
	places := []int{math.MinInt, -4096, -1, 0, 1, 20, 62, 63, 64, 65, 4096, 4097, 1 << 32, 1<<62 + 1, math.MaxInt - 1, math.MaxInt}
	memory := []api.Mem{{}, {Words: 64}, {Words: math.MaxInt}, {Words: math.MinInt}, {Words: math.MaxInt, Sp: y.M.Sp}, {Words: 30, Sp: x.M.Sp}, {Words: 64, Sp: [2][]uint64{x.M.Sp[0], nil}}, {Words: 64, Sp: [2][]uint64{nil, x.M.Sp[1]}}, {Words: 70, Sp: [2][]uint64{x.M.Sp[0], y.M.Sp[1]}}, x.M, y.M}
	for _, m := range memory {
		for _, space := range []int{math.MinInt, -1, 0, 1, 2, math.MaxInt} {
			for _, at := range places {
				for _, limit := range places {
					in := api.Room{M: m, B: api.Bump{Space: space, At: at, Limit: limit}, T: api.Buf{At: limit, End: at}}
					before := twice(in)
					for _, a := range l {
						twin.Made(in, a)
						if got, b, e := twin.To(in, a); e == api.ErrArg || e != api.OK && (b != 0 || !alike(got, before)) {
							t.Fatalf("To(%+v, %#x): got %+v, %#x, %d", in, a, got, b, e)
						}
					}
					twin.Each(in, l)
					twin.Each(in, l[:7])
					if !alike(in, before) {
						t.Fatalf("a room was %+v, and is %+v", before, in)
					}
				}
			}
		}
	}
}
