package scan_test

import (
	"math"
	"slices"
	"testing"

	"dovecote/api"
	"dovecote/buf"
	"dovecote/object"
	"dovecote/scan"
	"dovecote/twin"
)

// address is the measure: told by whole numbers, not by the layers below. So are all measures here.
func address(space, at int) uint64 { return uint64(space+1)*4294967296 + uint64(at) }

// first is a head's word.
func first(h api.Head) uint64 {
	return uint64(h.Tag)*72057594037927936 + uint64(h.Len)*4294967296 + h.Map
}

// scalars is the head of an object of so many fields, none of which is a pointer.
func scalars(n int) api.Head { return api.Head{Tag: n + 1, Len: n} }

// pointers is the head of an object all fields of which are pointers.
func pointers(n int) api.Head { return api.Head{Tag: 200 - n, Len: n, Map: 1<<n - 1} }

// filler is the head of a filler of so many words.
func filler(n int) api.Head { return api.Head{Tag: 255, Len: n - 1} }

// marked is memory in which no two words are the same, none is 0, none is a head's, and none an address.
func marked(words int) api.Mem {
	m := api.Mem{Words: words}
	for space := range 2 {
		for at := range words {
			m.Sp[space] = append(m.Sp[space], uint64(space)<<63+uint64(1000+at))
		}
	}
	return m
}

// room is one of marked memory: where the space of twins goes on.
func room(words, space, at int) api.Room {
	return api.Room{M: marked(words), B: api.Bump{Space: space, At: at, Limit: words}, T: api.Buf{At: at / 2, End: at}}
}

// put writes a head, the word of its twin and its fields into a room itself; what isn't told is what was there.
func put(x api.Room, a uint64, h api.Head, words ...uint64) uint64 {
	copy(x.M.Sp[a/4294967296-1][a%4294967296:], append([]uint64{first(h)}, words...))
	return a
}

// twice is a room once more, which shares nothing with it.
func twice(x api.Room) api.Room {
	for space, l := range x.M.Sp {
		x.M.Sp[space] = slices.Clone(l)
	}
	return x
}

// alike: are two rooms the same, word by word?
func alike(x, y api.Room) bool {
	for space := range 2 {
		if !slices.Equal(x.M.Sp[space], y.M.Sp[space]) {
			return false
		}
	}
	return x.M.Words == y.M.Words && x.B == y.B && x.T == y.T
}

// words are n words from an address on.
func words(x api.Room, a uint64, n int) []uint64 {
	return x.M.Sp[a/4294967296-1][a%4294967296:][:n]
}

// fits: are n words there from an address on?
func fits(x api.Room, a uint64, n int) bool {
	space, at := a/4294967296, a%4294967296
	return (space == 1 || space == 2) && at < uint64(x.M.Words) && at+uint64(n) <= uint64(x.M.Words)
}

// long is how many words a head tells.
func long(h api.Head) int {
	if h.Tag == 255 {
		return h.Len + 1
	}
	return h.Len + 2
}

// known is the head at an address, or chapter 5's error of At.
func known(x api.Room, a uint64) (api.Head, api.Errno) {
	if !fits(x, a, 1) {
		return api.Head{}, api.ErrSpace
	}
	w := words(x, a, 1)[0]
	h := api.Head{Tag: int(w / 72057594037927936), Len: int(w / 4294967296 % 16777216), Map: w % 4294967296}
	is := h.Tag >= 1 && h.Tag <= 200 && h.Len <= 16 && h.Map>>h.Len == 0 || h.Tag == 255 && h.Len <= 65535 && h.Map == 0
	switch {
	case !is:
		return api.Head{}, api.ErrForm
	case !fits(x, a, long(h)):
		return api.Head{}, api.ErrSpace
	}
	return h, api.OK
}

// over: is an address over there? All places of the space count, there or not.
func over(x api.Room, a uint64) bool {
	return a >= address(x.B.Space, 0) && a-address(x.B.Space, 0) <= 4294967295
}

// to is what chapter 11's To answers of a right room.
func to(x api.Room, a uint64) (api.Room, uint64, api.Errno) {
	if a == 0 {
		return x, 0, api.OK
	}
	h, e := known(x, a)
	switch {
	case e != api.OK:
		return x, 0, e
	case h.Tag == 255:
		return x, 0, api.ErrKind
	case over(x, a):
		return x, a, api.OK
	}
	if w := words(x, a, 2)[1]; w != 0 {
		if over(x, w) {
			return x, w, api.OK
		}
		return x, 0, api.ErrForm
	}
	n := long(h)
	if x.B.Limit-x.B.At < n {
		return x, 0, api.ErrFull
	}
	x = twice(x)
	b := address(x.B.Space, x.B.At)
	for i, w := range words(x, a, n) {
		words(x, b, n)[i] = w
	}
	words(x, b, n)[1], words(x, a, n)[1] = 0, b
	x.B.At += n
	return x, b, api.OK
}

// stands is what stands at a place of the space of twins, or why One answers an error ahead of all pointers.
func stands(x api.Room, at int) (api.Head, api.Errno) {
	if at < 0 || at > x.B.At {
		return api.Head{}, api.ErrArg
	}
	if at == x.B.At {
		return api.Head{}, api.ErrEmpty
	}
	h, e := known(x, address(x.B.Space, at))
	if e == api.OK && at+long(h) > x.B.At {
		return api.Head{}, api.ErrForm
	}
	return h, e
}

// one is what One must answer of a right room.
func one(x api.Room, at int) (api.Room, int, api.Errno) {
	h, e := stands(x, at)
	if e != api.OK {
		return x, at, e
	}
	for i := range h.Len {
		if h.Tag == 255 || h.Map>>i&1 == 0 {
			continue
		}
		then, b, e := to(x, words(x, address(x.B.Space, at), h.Len+2)[2+i])
		if e != api.OK {
			return x, at, e
		}
		x = twice(then)
		words(x, address(x.B.Space, at), h.Len+2)[2+i] = b
	}
	return x, at + long(h), api.OK
}

// all is what All must answer of a right room.
func all(x api.Room, at int) (api.Room, int, api.Errno) {
	for {
		then, behind, e := one(x, at)
		if e == api.ErrEmpty {
			return x, at, api.OK
		}
		x, at = then, behind
		if e != api.OK {
			return x, at, e
		}
	}
}

// grey is what Grey must answer of a right room.
func grey(x api.Room, at int) int {
	for n := 0; ; n++ {
		h, e := stands(x, at)
		if e == api.ErrEmpty {
			return n
		}
		if e != api.OK {
			return -1
		}
		at += long(h)
	}
}

// done is what Done must answer of a right room.
func done(x api.Room, upto int) bool {
	if upto < 0 || upto > x.M.Words {
		return false
	}
	right := true
	for at := 0; at < upto; {
		a := address(x.B.Space, at)
		h, e := known(x, a)
		if e != api.OK || at+long(h) > upto {
			return false
		}
		for i := range min(h.Len, 16) {
			if h.Tag != 255 && h.Map>>i&1 == 1 {
				p := words(x, a, h.Len+2)[2+i]
				right = right && (p == 0 || over(x, p))
			}
		}
		at += long(h)
	}
	return right
}

// call is One or All, or the measure of one of them.
type call func(x api.Room, at int) (api.Room, int, api.Errno)

// want holds a call against its measure, and what was handed in against what it was.
func want(t *testing.T, name string, called, measure call, x api.Room, at int) (api.Room, int, api.Errno) {
	t.Helper()
	before := twice(x)
	room, c, f := measure(before, at)
	got, b, e := called(x, at)
	if !alike(got, room) || b != c || e != f {
		t.Fatalf("%s(%+v, %d): got %+v, %d, %d, want %+v, %d, %d", name, before, at, got, b, e, room, c, f)
	}
	if !alike(x, before) {
		t.Fatalf("%s(%+v, %d): what was handed in is %+v", name, before, at, x)
	}
	if !buf.Right(got) {
		t.Fatalf("%s(%+v, %d): got %+v, which isn't right", name, before, at, got)
	}
	return got, b, e
}

func wantOne(t *testing.T, x api.Room, at int) (api.Room, int, api.Errno) {
	t.Helper()
	return want(t, "One", scan.One, one, x, at)
}

func wantAll(t *testing.T, x api.Room, at int) (api.Room, int, api.Errno) {
	t.Helper()
	return want(t, "All", scan.All, all, x, at)
}

// wantTold holds Grey and Done at a place against their measures.
func wantTold(t *testing.T, x api.Room, at int) (int, bool) {
	t.Helper()
	before := twice(x)
	n, is := scan.Grey(x, at), scan.Done(x, at)
	if m, right := grey(before, at), done(before, at); n != m || is != right || !alike(x, before) {
		t.Fatalf("Grey, Done(%+v, %d): got %d, %v, want %d, %v, and what was handed in is %+v", before, at, n, is, m, right, x)
	}
	return n, is
}

// P12.1: the example: a twin whose field leads to an object without one: One makes that one's twin, and sets the field.
func TestExample(t *testing.T) {
	x := api.Room{
		M: api.Mem{Words: 16, Sp: [2][]uint64{
			{0x01000002_00000001, 0x2_00000000, 0x1_00000004, 9, 0x02000001_00000000, 0, 77, 8, 8, 8, 8, 8, 8, 8, 8, 8},
			{0x01000002_00000001, 0, 0x1_00000004, 9, 7, 7, 7, 7, 7, 7, 7, 7, 7, 7, 7, 7},
		}},
		B: api.Bump{Space: 1, At: 4, Limit: 16},
		T: api.Buf{At: 1, End: 3},
	}
	if scan.Grey(x, 0) != 1 || scan.Done(x, 4) {
		t.Errorf("ahead of it: %d, %v", scan.Grey(x, 0), scan.Done(x, 4))
	}
	want := twice(x)
	want.M.Sp[0][5], want.M.Sp[1][2] = 0x2_00000004, 0x2_00000004
	copy(want.M.Sp[1][4:], []uint64{0x02000001_00000000, 0, 77})
	want.B.At = 7
	got, at, e := scan.One(x, 0)
	if !alike(got, want) || at != 4 || e != 0 {
		t.Errorf("One: got %+v, %d, %d", got, at, e)
	}
	if scan.Grey(got, 0) != 2 || scan.Grey(got, 4) != 1 || !scan.Done(got, 4) || !scan.Done(got, 7) {
		t.Errorf("behind it: %d, %d, %v, %v", scan.Grey(got, 0), scan.Grey(got, 4), scan.Done(got, 4), scan.Done(got, 7))
	}
	got, at, e = scan.One(got, at)
	if !alike(got, want) || at != 7 || e != 0 {
		t.Errorf("One of the new twin: got %+v, %d, %d", got, at, e)
	}
	got, at, e = scan.One(got, at)
	if !alike(got, want) || at != 7 || e != 9 {
		t.Errorf("One where nothing is left: got %+v, %d, %d", got, at, e)
	}
	got, at, e = scan.All(x, 0)
	if !alike(got, want) || at != 7 || e != 0 || scan.Grey(got, at) != 0 {
		t.Errorf("All: got %+v, %d, %d", got, at, e)
	}
}

// far are places at which nothing is left to be gone through, and that aren't B's At.
func far(at int) []int {
	return []int{math.MinInt, -1 << 32, -4096, -2, -1, at + 1, at + 2, 4096 + at, 1<<32 + at, 1 << 62, math.MaxInt}
}

// P12.1, P12.2: places that aren't there, and B's At: ErrArg, and ErrEmpty, with the room and the place as they are, ahead of what
// is at the place; All is OK at B's At; Grey tells -1 and 0.
func TestPlaces(t *testing.T) {
	for space := range 2 {
		for _, n := range []int{16, 40, 4096} {
			for _, goes := range []int{0, 1, 2, 9, n - 1, n} {
				x := room(n, space, goes)
				if goes+2 <= n {
					// An object stands there, but it is behind what was taken.
					put(x, address(space, goes), pointers(0), 0)
				}
				for _, at := range far(goes) {
					for _, call := range []func(*testing.T, api.Room, int) (api.Room, int, api.Errno){wantOne, wantAll} {
						if got, b, e := call(t, x, at); !alike(got, x) || b != at || e != api.ErrArg {
							t.Errorf("%d, where it goes on at %d: got %+v, %d, %d", at, goes, got, b, e)
						}
					}
					if k, _ := wantTold(t, x, at); k != -1 {
						t.Errorf("Grey at %d, where it goes on at %d: got %d", at, goes, k)
					}
				}
				if got, b, e := wantOne(t, x, goes); !alike(got, x) || b != goes || e != api.ErrEmpty {
					t.Errorf("One at %d: got %+v, %d, %d", goes, got, b, e)
				}
				if got, b, e := wantAll(t, x, goes); !alike(got, x) || b != goes || e != api.OK {
					t.Errorf("All at %d: got %+v, %d, %d", goes, got, b, e)
				}
				if k, _ := wantTold(t, x, goes); k != 0 {
					t.Errorf("Grey at %d: got %d", goes, k)
				}
			}
		}
	}
}

// wantRefused: One and All are refused at a place by this error, with the room and the place as they are; Grey tells -1.
func wantRefused(t *testing.T, x api.Room, at int, f api.Errno) {
	t.Helper()
	for _, call := range []func(*testing.T, api.Room, int) (api.Room, int, api.Errno){wantOne, wantAll} {
		if got, b, e := call(t, x, at); !alike(got, x) || b != at || e != f {
			t.Errorf("%+v, %d: got %+v, %d, %d, want error %d", x, at, got, b, e, f)
		}
	}
	if k, _ := wantTold(t, x, at); k != -1 {
		t.Errorf("Grey(%+v, %d): got %d", x, at, k)
	}
}

// P12.1: words that are no head's; objects and fillers whose words end behind the space, which goes ahead of that they end above
// B's At; and such that end above B's At alone. What their pointers are isn't asked for.
func TestNothingStands(t *testing.T) {
	for space := range 2 {
		for _, at := range []int{0, 1, 7, 38, 39} {
			for _, goes := range []int{at + 1, 40} {
				for _, w := range []uint64{0, 1, address(space, 0), address(1-space, 0), first(pointers(1)) + 2, first(api.Head{Tag: 201}), first(api.Head{Tag: 0, Len: 1}), first(api.Head{Tag: 254}), first(api.Head{Tag: 1, Len: 17}), first(api.Head{Tag: 255, Len: 1, Map: 1}), math.MaxUint64} {
					x := room(40, space, goes)
					x.M.Sp[space][at] = w
					wantRefused(t, x, at, api.ErrForm)
				}
			}
		}
		for n := range 17 {
			for _, goes := range []int{40 - n, 40} {
				x := room(40, space, goes)
				// One word of it is behind the space.
				put(x, address(space, 39-n), pointers(n))
				wantRefused(t, x, 39-n, api.ErrSpace)
			}
			for _, at := range []int{0, 3, 38 - n} {
				for goes := at + 1; goes < at+n+2; goes++ {
					x := room(40, space, goes)
					// Also where a pointer would be refused, and where it wouldn't.
					put(x, address(space, at), pointers(n), 0)
					wantRefused(t, x, at, api.ErrForm)
					put(x, address(space, at), pointers(n), make([]uint64, n+1)...)
					wantRefused(t, x, at, api.ErrForm)
				}
			}
		}
		for _, n := range []int{11, 12, 4096, 65536} {
			for _, goes := range []int{31, 40} {
				x := room(40, space, goes)
				put(x, address(space, 30), filler(n))
				wantRefused(t, x, 30, api.ErrSpace)
			}
		}
		x := room(40, space, 39)
		put(x, address(space, 30), filler(10))
		wantRefused(t, x, 30, api.ErrForm)
	}
}

// wantBehind: One at a place changes nothing, and is behind n words; so it is for All, if nothing else stands there.
func wantBehind(t *testing.T, x api.Room, at, n int) {
	t.Helper()
	if got, b, e := wantOne(t, x, at); !alike(got, x) || b != at+n || e != api.OK {
		t.Errorf("One(%+v, %d): got %+v, %d, %d", x, at, got, b, e)
	}
	if x.B.At != at+n {
		return
	}
	if got, b, e := wantAll(t, x, at); !alike(got, x) || b != at+n || e != api.OK {
		t.Errorf("All(%+v, %d): got %+v, %d, %d", x, at, got, b, e)
	}
	if k, _ := wantTold(t, x, at); k != 1 {
		t.Errorf("Grey(%+v, %d): got %d", x, at, k)
	}
}

// P12.1: a filler, whatever its words are, and objects of each number of fields without a pointer, whatever these are: the room as
// it is, and the place behind; also where no word is left, and where B's At is further on.
func TestWithoutPointers(t *testing.T) {
	for space := range 2 {
		for n := range 17 {
			for _, at := range []int{0, 1, 20, 38 - n} {
				for _, goes := range []int{at + n + 2, 40} {
					x := room(40, space, goes)
					put(x, address(space, at), scalars(n))
					wantBehind(t, x, at, n+2)
					put(x, address(space, at), scalars(n), slices.Repeat([]uint64{address(1-space, 3)}, n+1)...)
					wantBehind(t, x, at, n+2)
					put(x, address(space, at), filler(n+2))
					wantBehind(t, x, at, n+2)
					put(x, address(space, at), filler(n+1), slices.Repeat([]uint64{address(1-space, 3)}, n)...)
					wantBehind(t, x, at, n+1)
				}
			}
		}
		for _, n := range []int{1, 4095, 4096} {
			x := room(4096, space, n)
			put(x, address(space, 0), filler(n))
			wantBehind(t, x, 0, n)
		}
	}
}

// P12.1: what is a pointer, and what isn't, for each map of an object of five fields: the pointers lead to objects, and only they are set.
func TestMaps(t *testing.T) {
	for space := range 2 {
		for bits := range 32 {
			x := room(60, space, 10)
			var l []uint64
			for i := range 5 {
				l = append(l, put(x, address(1-space, 9*i+2), scalars(i), 0))
			}
			put(x, address(space, 3), api.Head{Tag: 9, Len: 5, Map: uint64(bits)}, append([]uint64{0}, l...)...)
			want, next := slices.Clone(l), 10
			for i := range 5 {
				if bits>>i&1 == 1 {
					want[i] = address(space, next)
					next += i + 2
				}
			}
			got, b, e := wantOne(t, x, 3)
			if b != 10 || e != api.OK || got.B.At != next || got.T != x.T || !slices.Equal(words(got, address(space, 5), 5), want) {
				t.Errorf("the map %b: got %+v, %d, %d", bits, got, b, e)
			}
		}
	}
}

// field is what may stand in a pointer: the word, what chapter 11's To makes of it where the space goes on at the place 30, and its error.
type field struct {
	p, b uint64
	e    api.Errno
}

// mixed is a room of 64 words in which the space goes on at the place 30, with an object at the place 12 that has no fields yet, and
// what its pointers may lead to: nothing; objects without a twin; with one over there, and behind memory over there; an object and its
// twin that are over there, the object itself; then what is refused: words that are no head's, fillers, objects whose twin is elsewhere,
// such as end behind the space, addresses that aren't there.
func mixed(space int) (api.Room, []field, []field) {
	x := room(64, space, 30)
	here := 1 - space
	own := put(x, address(space, 12), scalars(0), 0)
	there := []uint64{put(x, address(space, 0), scalars(1), 0), put(x, address(space, 3), pointers(1), address(space, 0), address(here, 0)), put(x, address(space, 6), pointers(0), address(here, 0)), put(x, address(space, 20), scalars(8), 0)}
	good := []field{{0, 0, api.OK}, {own, own, api.OK}}
	for _, a := range there {
		good = append(good, field{a, a, api.OK})
	}
	fresh := address(space, 30)
	for _, a := range []uint64{put(x, address(here, 0), scalars(1), 0), put(x, address(here, 3), pointers(2), 0, address(here, 0), 5), put(x, address(here, 7), pointers(0), 0), put(x, address(here, 10), scalars(16), 0)} {
		good = append(good, field{a, fresh, api.OK})
	}
	for i, w := range []uint64{address(space, 0), address(space, 12), address(space, 29), address(space, 64), address(space, 4294967295)} {
		good = append(good, field{put(x, address(here, 30+2*i), pointers(0), w), w, api.OK})
	}
	bad := []field{
		{put(x, address(here, 40), pointers(0), address(here, 0)), 0, api.ErrForm}, {put(x, address(here, 42), pointers(0), 3), 0, api.ErrForm},
		{address(here, 44), 0, api.ErrForm}, {address(space, 8), 0, api.ErrForm},
		{put(x, address(here, 45), filler(3), 0), 0, api.ErrKind}, {put(x, address(space, 9), filler(2), 0), 0, api.ErrKind},
		{put(x, address(here, 50), scalars(13), 0), 0, api.ErrSpace}, {put(x, address(here, 62), filler(3), 0), 0, api.ErrSpace},
		{address(here, 64), 0, api.ErrSpace}, {address(space, 64), 0, api.ErrSpace}, {7, 0, api.ErrSpace}, {1<<63 + own, 0, api.ErrSpace},
	}
	return x, good, bad
}

// own is a room with an object at the place 12, all fields of which are pointers: these.
func own(x api.Room, l ...uint64) api.Room {
	x = twice(x)
	put(x, address(x.B.Space, 12), pointers(len(l)), append([]uint64{0}, l...)...)
	return x
}

// P12.1: an object with one pointer, which is each of these: as the document tells it, and not as a measure does.
func TestOnePointerTold(t *testing.T) {
	for space := range 2 {
		from, good, bad := mixed(space)
		for _, f := range append(good, bad...) {
			x := own(from, f.p)
			got, b, e := wantOne(t, x, 12)
			if e != f.e {
				t.Errorf("a pointer %#x: got error %d, want %d", f.p, e, f.e)
			}
			if f.e != api.OK {
				if b != 12 || !alike(got, x) {
					t.Errorf("a pointer %#x, which is refused: got %+v, %d", f.p, got, b)
				}
				continue
			}
			if p := words(got, address(space, 14), 1)[0]; b != 15 || p != f.b || got.T != x.T {
				t.Errorf("a pointer %#x: got %#x, %d, want %#x", f.p, p, b, f.b)
			}
			if f.b != address(space, 30) && got.B != x.B || f.b == address(space, 30) && got.B.At <= 30 {
				t.Errorf("a pointer %#x: the space goes on at %+v", f.p, got.B)
			}
			if f.b == f.p && !alike(got, x) {
				t.Errorf("a pointer %#x, which is right already: got %+v", f.p, got)
			}
			if again, b, e := wantOne(t, got, 12); f.b%4294967296 < 64 && f.b != address(space, 29) && (b != 15 || e != api.OK || !alike(again, got)) {
				t.Errorf("a pointer %#x, once more: got %+v, %d, %d", f.p, again, b, e)
			}
		}
	}
}

// P12.1: objects with two and with three pointers: all rows of two of these, and rows of three, where the space goes on at places
// where all have room, where one has, where none has.
func TestManyPointers(t *testing.T) {
	for space := range 2 {
		from, good, bad := mixed(space)
		l := append(good, bad...)
		for _, goes := range []int{30, 45, 46, 58, 59, 61, 62, 63, 64} {
			x := twice(from)
			x.B.At = goes
			for _, f := range l {
				for _, g := range l {
					wantOne(t, own(x, f.p, g.p), 12)
					wantAll(t, own(x, f.p, g.p), 12)
				}
				for _, g := range good[5:12] {
					for _, k := range good[5:12] {
						wantOne(t, own(x, f.p, g.p, k.p), 12)
						wantOne(t, own(x, g.p, f.p, k.p), 12)
						wantOne(t, own(x, g.p, k.p, f.p), 12)
					}
				}
			}
		}
	}
}

// P12.1: an error at the first pointer, at those in the middle, and at the last one: what was made and set ahead of it is so, nothing since,
// and the place is that of the object.
func TestRefusedPointer(t *testing.T) {
	for space := range 2 {
		from, good, bad := mixed(space)
		row := []uint64{good[6].p, 0, good[8].p, good[10].p, good[6].p}
		made := []uint64{address(space, 30), 0, address(space, 33), good[10].b, address(space, 30)}
		ends := []int{30, 33, 33, 35, 35, 35}
		for _, f := range bad {
			for i, end := range ends {
				// Others behind the first one don't count.
				l := append(slices.Insert(slices.Clone(row), i, f.p), 7, good[7].p)
				x := own(from, l...)
				got, b, e := wantOne(t, x, 12)
				want := append(slices.Clone(made[:i]), l[i:]...)
				if b != 12 || e != f.e || got.B.At != end || got.T != x.T || !slices.Equal(words(got, address(space, 14), len(l)), want) {
					t.Fatalf("One of %#x: got %+v, %d, %d, want %d up to %d", l, got, b, e, f.e, end)
				}
				if once, b, e := wantAll(t, x, 12); b != 12 || e != f.e || !alike(once, got) {
					t.Fatalf("All of %#x: got %+v, %d, %d, want %d up to %d", l, got, b, e, f.e, end)
				}
			}
		}
	}
}

// P12.1: no room for what the first pointer leads to, one in the middle, the last one: smaller ones behind it aren't asked for.
func TestFull(t *testing.T) {
	for space := range 2 {
		from, good, _ := mixed(space)
		row := []uint64{good[6].p, good[6].p, good[9].p, 0, good[7].p, good[8].p}
		for _, k := range []struct {
			goes, end, right int
			e                api.Errno
		}{
			{64, 64, 0, api.ErrFull}, {63, 63, 0, api.ErrFull}, {62, 62, 0, api.ErrFull}, {61, 64, 2, api.ErrFull}, {44, 47, 2, api.ErrFull},
			{43, 64, 4, api.ErrFull}, {40, 61, 4, api.ErrFull}, {39, 64, 5, api.ErrFull}, {38, 63, 5, api.ErrFull}, {37, 64, 6, api.OK}, {36, 63, 6, api.OK},
		} {
			x := own(from, row...)
			x.B.At = k.goes
			got, b, e := wantOne(t, x, 12)
			behind := 12
			if k.e == api.OK {
				behind = 20
			}
			if b != behind || e != k.e || got.B.At != k.end {
				t.Errorf("from %d on: got %d, %d, up to %d, want %+v", k.goes, b, e, got.B.At, k)
			}
			for i, p := range words(got, address(space, 14), len(row)) {
				if set := p == 0 || over(x, p); i < k.right && !set || i >= k.right && p != row[i] {
					t.Errorf("from %d on: the pointer %d is %#x", k.goes, i, p)
				}
			}
		}
	}
}

// P12.1: objects of each number of fields, all of them pointers to the same one, or to themselves: its twin is made once.
func TestSameOne(t *testing.T) {
	for space := range 2 {
		for n := 1; n <= 16; n++ {
			for _, at := range []int{0, 5} {
				x := room(40, space, at+n+2)
				a := put(x, address(1-space, 7), scalars(3), 0)
				put(x, address(space, at), pointers(n), append([]uint64{0}, slices.Repeat([]uint64{a}, n)...)...)
				got, b, e := wantOne(t, x, at)
				c := address(space, at+n+2)
				if b != at+n+2 || e != api.OK || got.B.At != at+n+7 || !slices.Equal(words(got, address(space, at+2), n), slices.Repeat([]uint64{c}, n)) {
					t.Errorf("%d pointers to the same: got %+v, %d, %d", n, got, b, e)
				}
				if w := words(got, a, 5); !slices.Equal(w, []uint64{first(scalars(3)), c, w[2], w[3], w[4]}) || !slices.Equal(words(got, c, 5), []uint64{w[0], 0, w[2], w[3], w[4]}) {
					t.Errorf("%d pointers to the same: it is %#x, and its twin %#x", n, w, words(got, c, 5))
				}
				put(x, address(space, at), pointers(n), append([]uint64{0}, slices.Repeat([]uint64{address(space, at)}, n)...)...)
				wantBehind(t, x, at, n+2)
			}
		}
	}
}

// chain is a room in which k objects of one pointer and one scalar each stand one behind the other; each leads to the next one, and the
// last one to the first, in a ring; the first one has a twin, at the place where the space went on.
func chain(words, space, at, k int) api.Room {
	x := room(words, space, at+4)
	x.T = api.Buf{}
	for i := range k {
		put(x, address(1-space, 4*i), api.Head{Tag: 1 + i%200, Len: 2, Map: 2}, 0, uint64(500+i), address(1-space, (4*i+4)%(4*k)))
	}
	put(x, address(space, at), api.Head{Tag: 1, Len: 2, Map: 2}, 0, 500, address(1-space, 4%(4*k)))
	x.M.Sp[1-space][1] = address(space, at)
	return x
}

// P12.2, P12.3: where what is gone through makes others: All goes on till there are none: a ring of objects has a ring of twins, side by side;
// or it ends where no room is left, with the room and the place as they are then.
func TestRing(t *testing.T) {
	for space := range 2 {
		for _, at := range []int{0, 3} {
			for k := 1; k <= 10; k++ {
				for n := 4*k + at - 3; n <= 4*k+at+1; n++ {
					x := chain(60, space, at, k)
					for i := range at {
						put(x, address(space, i), filler(1))
					}
					x.M.Words = max(n, 16, 4*k)
					x.M.Sp[0], x.M.Sp[1] = x.M.Sp[0][:x.M.Words], x.M.Sp[1][:x.M.Words]
					x.B.Limit = x.M.Words
					got, b, e := wantAll(t, x, at)
					made := min((x.M.Words-at)/4, k)
					if made == k {
						if b != at+4*k || e != api.OK || got.B.At != b || !scan.Done(got, b) || scan.Grey(got, at) != k || scan.Grey(got, b) != 0 {
							t.Fatalf("a ring of %d: got %+v, %d, %d", k, got, b, e)
						}
						for i := range k {
							if w := words(got, address(space, at+4*i), 4); !slices.Equal(w, []uint64{first(api.Head{Tag: 1 + i, Len: 2, Map: 2}), 0, uint64(500 + i), address(space, at+4*i+4-4*k*((i+1)/k))}) {
								t.Fatalf("a ring of %d: the twin %d is %#x", k, i, w)
							}
						}
						continue
					}
					if b != at+4*(made-1) || e != api.ErrFull || got.B.At != b+4 || scan.Grey(got, b) != 1 || !scan.Done(got, b) || scan.Done(got, b+4) {
						t.Fatalf("a ring of %d, of which %d have room: got %+v, %d, %d", k, made, got, b, e)
					}
				}
			}
		}
	}
}

// P12.2: the longest spaces: a ring of 1024 objects, full; one that has no room for the last one; and 2048 objects of no field.
func TestLongest(t *testing.T) {
	for space := range 2 {
		got, b, e := wantAll(t, chain(4096, space, 0, 1024), 0)
		if b != 4096 || e != api.OK || got.B.At != 4096 || !done(got, 4096) {
			t.Errorf("a ring of 1024: got %d, %d", b, e)
		}
		if k, is := wantTold(t, got, 0); k != 1024 || is != true {
			t.Errorf("a ring of 1024: got %d, %v", k, is)
		}
		got, b, e = wantAll(t, chain(4096, space, 1, 1024), 1)
		if b != 1+4*1022 || e != api.ErrFull || got.B.At != 4093 {
			t.Errorf("a ring of 1024 from 1 on: got %d, %d", b, e)
		}
		x := room(4096, space, 4096)
		for at := 0; at < 4096; at += 2 {
			put(x, address(space, at), scalars(0))
		}
		if got, b, e := wantAll(t, x, 0); b != 4096 || e != api.OK || !alike(got, x) {
			t.Errorf("objects of no field: got %d, %d", b, e)
		}
		if k, is := wantTold(t, x, 4096); k != 0 || !is {
			t.Errorf("objects of no field: got %d, %v", k, is)
		}
		if k := scan.Grey(x, 0); k != 2048 {
			t.Errorf("objects of no field: got %d", k)
		}
	}
}

// P12.2: All ends at the first error, in the middle of what is gone through, at the object whose pointer is refused, and not at what was
// made for it; with what was made till then. It is the same as One, again and again.
func TestAllRefused(t *testing.T) {
	for space := range 2 {
		from, good, bad := mixed(space)
		for _, f := range bad {
			x := own(from, good[7].p, good[2].p, good[6].p)
			x.B.At = 23
			put(x, address(space, 17), filler(3))
			put(x, address(space, 20), api.Head{Tag: 5, Len: 1}, 0, 7)
			// What the object at 3 here leads to is refused: its first field is one without a twin.
			x.M.Sp[1-space][6] = f.p
			if f.p == address(space, 12) || f.p >= address(space, 20) && f.p <= address(space, 63) {
				continue
			}
			got, b, e := wantAll(t, x, 12)
			if b != 23 || e != f.e || got.B.At != 30 || got.T != x.T {
				t.Errorf("All, where a twin's pointer is %#x: got %+v, %d, %d, want %d", f.p, got, b, e, f.e)
			}
			if w := words(got, address(space, 23), 4); w[2] != address(space, 27) || w[3] != f.p {
				t.Errorf("All, where a twin's pointer is %#x: the twin is %#x", f.p, w)
			}
			then, at := x, 12
			for e := api.OK; e == api.OK; {
				then, at, e = wantOne(t, then, at)
			}
			if !alike(then, got) || at != b {
				t.Errorf("One, again and again, where a twin's pointer is %#x: got %+v, %d", f.p, then, at)
			}
		}
	}
}

// P12.2: Grey and Done, as the document tells them, at each place of a space with objects, fillers and other words.
func TestGreyAndDoneTold(t *testing.T) {
	for space := range 2 {
		x := room(24, space, 16)
		put(x, address(space, 0), pointers(1), 5, 0)
		put(x, address(space, 3), filler(2), first(scalars(0)))
		put(x, address(space, 5), scalars(1), 0, address(1-space, 0))
		put(x, address(space, 8), api.Head{Tag: 3, Len: 2, Map: 2}, 0, address(1-space, 0), address(space, 100))
		put(x, address(space, 12), filler(1))
		put(x, address(space, 13), pointers(1), 0, address(1-space, 0))
		put(x, address(space, 16), filler(4))
		put(x, address(space, 20), filler(3))
		for at := -1; at <= 25; at++ {
			n, is := wantTold(t, x, at)
			k, gone := map[int]int{0: 6, 3: 5, 4: -1, 5: 4, 8: 3, 12: 2, 13: 1, 16: 0}[at]
			if !gone {
				k = -1
			}
			// Behind 13 there is a pointer that isn't over there; at all other places but these nothing ends.
			right := slices.Contains([]int{0, 3, 5, 8, 12, 13}, at)
			if n != k || is != right {
				t.Errorf("Grey, Done at %d: got %d, %v, want %d, %v", at, n, is, k, right)
			}
		}
		x.M.Sp[space][15] = address(space, 3)
		for at := -1; at <= 25; at++ {
			// Objects is told up to there, wherever B's At is; what is no head's is behind 23 alone.
			if _, is := wantTold(t, x, at); is != slices.Contains([]int{0, 3, 5, 8, 12, 13, 16, 20, 23}, at) {
				t.Errorf("Done at %d: got %v", at, is)
			}
		}
		x.B.At = 23
		if n, _ := wantTold(t, x, 5); n != 6 {
			t.Errorf("Grey at 5 up to 23: got %d", n)
		}
		x.B.At = 22
		if n, _ := wantTold(t, x, 5); n != -1 {
			t.Errorf("Grey at 5 up to 22: got %d", n)
		}
	}
}

// P12.2: Done, of an object that has one pointer among others: which words are right, and which aren't, for each place of it.
func TestDoneOfPointers(t *testing.T) {
	for space := range 2 {
		from, good, bad := mixed(space)
		put(from, address(space, 8), filler(4))
		words := []uint64{1, 5, math.MaxUint64, 1<<63 + address(space, 0), address(2, 0), address(space, 0), address(space, 63), address(space, 64), address(space, 4294967295), address(1-space, 0), address(1-space, 4294967295)}
		for _, f := range append(good, bad...) {
			words = append(words, f.p)
		}
		for _, p := range words {
			for i := range 3 {
				l := []uint64{0, address(space, 0), address(space, 12)}
				l[i] = p
				x := own(from, l...)
				// The one at 3 isn't right in that room.
				put(x, address(space, 3), pointers(1), 0, 0)
				want := p == 0 || p/4294967296 == uint64(space+1)
				if _, is := wantTold(t, x, 17); is != want {
					t.Errorf("Done, where the pointer %d is %#x: got %v", i, p, is)
				}
				put(x, address(space, 12), api.Head{Tag: 1, Len: 3})
				if _, is := wantTold(t, x, 17); !is {
					t.Errorf("Done, where the scalar %d is %#x: got %v", i, p, is)
				}
			}
		}
	}
}

// P12.1, P12.2: a room with a bit of all, wherever its space goes on: all calls at every place.
func TestMeasured(t *testing.T) {
	for space := range 2 {
		from, good, bad := mixed(space)
		put(from, address(space, 8), filler(4))
		put(from, address(space, 24), pointers(4), 0, good[7].p, good[6].p, 0, good[8].p)
		rooms := []api.Room{
			own(from, good[6].p, good[10].p, good[7].p, good[8].p, 0, good[7].p),
			own(from, good[6].p, good[7].p, good[0].p, bad[4].p, good[9].p, 0),
		}
		put(rooms[0], address(space, 20), filler(4))
		put(rooms[1], address(space, 20), api.Head{Tag: 8, Len: 2, Map: 1}, 0, good[9].p, good[9].p)
		put(rooms[0], address(space, 3), pointers(1), 0, good[7].p)
		// In one room All comes to its end: what was 5 leads to an object.
		rooms[0].M.Sp[1-space][6] = good[9].p
		for i, x := range rooms {
			for goes := range 65 {
				x.B.At = goes
				x.T = []api.Buf{{}, {At: 0, End: goes}, {At: goes / 2, End: goes}, {At: goes / 3, End: goes / 2}, {At: goes, End: goes}}[goes%5]
				for at := -2; at <= 66; at++ {
					wantOne(t, x, at)
					wantAll(t, x, at)
					wantTold(t, x, at)
				}
			}
			if i == 0 {
				x.B.At, x.T = 30, api.Buf{At: 5, End: 9}
				if got, b, e := wantAll(t, x, 0); b != got.B.At || b != 57 || e != api.OK {
					t.Errorf("All: got %d, %d, up to %d", b, e, got.B.At)
				}
			}
		}
	}
}

// number is the next of a row of numbers all over, the same ones each time.
func number(seed *uint64, n int) int {
	*seed = *seed*6364136223846793005 + 1442695040888963407
	return int(*seed >> 33 % uint64(n))
}

// filled is a room whose other space is full of objects that lead to each other, and to nothing, fillers between them: and their addresses.
func filled(words, space, at int, seed *uint64) (api.Room, []uint64) {
	x := room(words, space, at)
	var l []uint64
	heads := map[uint64]api.Head{}
	for to := 0; words-to >= 2; {
		n := min(number(seed, 7), words-to-2)
		if a := address(1-space, to); number(seed, 5) == 0 {
			put(x, a, filler(n+2))
		} else {
			heads[a] = api.Head{Tag: 1 + number(seed, 200), Len: n, Map: uint64(number(seed, 1<<n))}
			l = append(l, put(x, a, heads[a], 0))
		}
		to += n + 2
	}
	for _, a := range l {
		for i := range heads[a].Len {
			if heads[a].Map>>i&1 == 1 {
				x.M.Sp[1-space][int(a%4294967296)+2+i] = append(slices.Clone(l), 0, 0)[number(seed, len(l)+2)]
			}
		}
	}
	return x, l
}

// reached are the objects that some lead to, they themselves among them.
func reached(x api.Room, roots []uint64) map[uint64]struct{} {
	known := map[uint64]struct{}{}
	for l := slices.Clone(roots); len(l) > 0; {
		a := l[0]
		l = l[1:]
		if _, is := known[a]; is || a == 0 {
			continue
		}
		known[a] = struct{}{}
		w := words(x, a, 1)[0]
		for i := range w / 4294967296 % 16777216 {
			if w>>i&1 == 1 {
				l = append(l, words(x, a, int(i)+3)[i+2])
			}
		}
	}
	return known
}

// P12.3: whole spaces of objects that lead to each other: some get twins, and All goes on from the first one. Behind it each twin's pointers
// are over there, and are the twins of what the object's are; all objects that are reached from the first ones have twins, and no others;
// all other words, and T, are as they were.
func TestWholeSpace(t *testing.T) {
	full, ended := 0, 0
	for seed := range uint64(400) {
		step := seed
		n := []int{16, 17, 40, 100, 300}[seed%5]
		begin := []int{0, 1, n / 6, n / 3, n / 2}[seed/10%5]
		x, l := filled(n, int(seed/5%2), begin, &step)
		var roots []uint64
		for range 1 + number(&step, 3) {
			a := l[number(&step, len(l))]
			if then, _, e := twin.To(x, a); e == api.OK {
				x, roots = then, append(roots, a)
			}
		}
		got, b, e := wantAll(t, x, begin)
		if e != api.OK {
			if full++; e != api.ErrFull {
				t.Fatalf("%d: All: got error %d", seed, e)
			}
		} else if ended++; b != got.B.At {
			t.Fatalf("%d: All: got %d, up to %d", seed, b, got.B.At)
		}
		has := map[uint64]uint64{0: 0}
		for _, a := range l {
			if w := words(got, a, 2)[1]; w != 0 {
				has[a] = w
			}
		}
		known := reached(x, roots)
		if e == api.OK && len(has)-1 != len(known) {
			t.Fatalf("%d: All: so many have twins: %d, not %d", seed, len(has)-1, len(known))
		}
		for a, w := range has {
			if _, is := known[a]; a != 0 && !is {
				t.Fatalf("%d: All: %#x has a twin, and isn't reached", seed, a)
			}
			if a != 0 {
				wantRight(t, x, got, a, w, b, has)
			}
		}
		wantRest(t, x, got, begin, has)
	}
	if full < 20 || ended < 100 {
		t.Errorf("so many were full: %d, and so many came to their end: %d", full, ended)
	}
}

// wantRight: w is the twin of a; as far as it was gone through, its pointers are the twins of what those of a are; behind that they
// are what they were, or, where an error ended it in the middle of an object, some of them are.
func wantRight(t *testing.T, x, got api.Room, a, w uint64, upto int, has map[uint64]uint64) {
	t.Helper()
	h, _ := known(x, a)
	want, k := slices.Clone(words(x, a, long(h))), words(got, w, long(h))
	want[1] = 0
	for i := range h.Len {
		if h.Map>>i&1 == 0 {
			continue
		}
		b, is := has[want[2+i]]
		switch at := int(w % 4294967296); {
		case at < upto && !is:
			t.Fatalf("what %#x leads to by %d has no twin", a, i)
		case at < upto || at == upto && is && k[2+i] == b:
			want[2+i] = b
		}
	}
	if !slices.Equal(k, want) {
		t.Fatalf("the twin of %#x: got %#x, want %#x", a, k, want)
	}
}

// wantRest: nothing else was changed: of the objects all but the words of their twins, and what is in front of the twins, and behind them.
func wantRest(t *testing.T, x, got api.Room, begin int, has map[uint64]uint64) {
	t.Helper()
	space, k := x.B.Space, got.B.At
	was := slices.Clone(x.M.Sp[1-space])
	for a, w := range has {
		if a != 0 {
			was[a%4294967296+1] = w
		}
	}
	if !slices.Equal(was, got.M.Sp[1-space]) || got.T != x.T || got.M.Words != x.M.Words {
		t.Fatalf("the space of objects: got %+v, it was %+v", got, x)
	}
	front, back := slices.Equal(x.M.Sp[space][:begin], got.M.Sp[space][:begin]), slices.Equal(x.M.Sp[space][k:], got.M.Sp[space][k:])
	if !front || !back || got.B != (api.Bump{Space: space, At: k, Limit: x.B.Limit}) {
		t.Fatalf("the space of twins, in front of them and behind: got %+v, it was %+v", got, x)
	}
}

// R3: what comes out is one's own: rooms that were made of one don't see what is made in another.
func TestRoomsAreValues(t *testing.T) {
	for space := range 2 {
		from, good, _ := mixed(space)
		x := own(from, good[6].p, good[7].p, good[2].p, good[8].p)
		rooms, before := []api.Room{x}, []api.Room{twice(x)}
		for range 3 {
			for _, from := range rooms {
				for _, at := range []int{12, 18, 20, 30, 33} {
					one, _, _ := scan.One(from, at)
					all, _, _ := scan.All(from, at)
					scan.Grey(from, at)
					scan.Done(from, at)
					for _, k := range []api.Room{one, all} {
						// A field that is set in what came out is seen nowhere else, either.
						k.M, _ = object.Set(k.M, address(space, 12), 1, 5)
						rooms, before = append(rooms, k), append(before, twice(k))
					}
				}
				if len(rooms) > 60 {
					break
				}
			}
			for i := range rooms {
				if !alike(rooms[i], before[i]) {
					t.Fatalf("a room was %+v, and is %+v", before[i], rooms[i])
				}
			}
		}
	}
}

// R4: the same once more, whatever was called between.
func TestSameOnceMore(t *testing.T) {
	from, good, bad := mixed(1)
	for _, f := range append(good, bad...) {
		x := own(from, good[6].p, f.p, good[7].p)
		one, b, e := scan.One(x, 12)
		scan.All(one, 12)
		scan.Grey(one, 0)
		two, c, f := scan.One(x, 12)
		if !alike(one, two) || b != c || e != f {
			t.Errorf("One: got %d, %d, and %d, %d", b, e, c, f)
		}
	}
}

// R1: of rooms that aren't right nothing is promised, but that every call ends, and that what was handed in is as it was; what is refused
// ahead of all pointers changes nothing.
func TestEveryCallEnds(t *testing.T) {
	from, good, _ := mixed(0)
	x := own(from, good[6].p, good[7].p, good[10].p)
	from, good, bad := mixed(1)
	y := own(from, good[6].p, bad[2].p)
	places := []int{math.MinInt, -4096, -1, 0, 12, 17, 20, 30, 62, 63, 64, 65, 4096, 4097, 1 << 32, 1<<62 + 1, math.MaxInt - 1, math.MaxInt}
	memory := []api.Mem{{}, {Words: 64}, {Words: math.MaxInt}, {Words: math.MinInt}, {Words: math.MaxInt, Sp: y.M.Sp}, {Words: 30, Sp: x.M.Sp}, {Words: 64, Sp: [2][]uint64{x.M.Sp[0], nil}}, {Words: 64, Sp: [2][]uint64{nil, x.M.Sp[1]}}, {Words: 64, Sp: [2][]uint64{x.M.Sp[0][:15], x.M.Sp[1][:5]}}, {Words: 70, Sp: [2][]uint64{x.M.Sp[0], y.M.Sp[1]}}, x.M, y.M}
	for _, m := range memory {
		for _, space := range []int{math.MinInt, -1, 0, 1, 2, math.MaxInt} {
			for _, goes := range places {
				for _, limit := range places {
					in := api.Room{M: m, B: api.Bump{Space: space, At: goes, Limit: limit}, T: api.Buf{At: limit, End: goes}}
					before := twice(in)
					for _, at := range places {
						if got, b, e := scan.One(in, at); e != api.OK && b != at || (e == api.ErrArg || e == api.ErrEmpty) && !alike(got, before) {
							t.Fatalf("One(%+v, %d): got %+v, %d, %d", in, at, got, b, e)
						}
						scan.All(in, at)
						scan.Grey(in, at)
						scan.Done(in, at)
					}
					if !alike(in, before) {
						t.Fatalf("a room was %+v, and is %+v", before, in)
					}
				}
			}
		}
	}
}
