package replay_test

import (
	"math"
	"slices"
	"testing"

	"dovecote/api"
	"dovecote/buf"
	"dovecote/object"
	"dovecote/replay"
	"dovecote/scan"
	"dovecote/twin"
)

// address is the measure: told by whole numbers, not by the layers below. So are all measures here.
func address(space, at int) uint64 { return uint64(space+1)*4294967296 + uint64(at) }

// first is a head's word.
func first(h api.Head) uint64 {
	return uint64(h.Tag)*72057594037927936 + uint64(h.Len)*4294967296 + h.Map
}

// scalars is the head of an object of so many fields, none of which is a pointer.
func scalars(n int) api.Head { return api.Head{Tag: n + 1, Len: n} }

// pointers is the head of an object all fields of which are pointers.
func pointers(n int) api.Head { return api.Head{Tag: 200 - n, Len: n, Map: 1<<n - 1} }

// filler is the head of a filler of so many words.
func filler(n int) api.Head { return api.Head{Tag: 255, Len: n - 1} }

// marked is memory in which no two words are the same, none is 0, none is a head's, and none an address.
func marked(words int) api.Mem {
	m := api.Mem{Words: words}
	for space := range 2 {
		for at := range words {
			m.Sp[space] = append(m.Sp[space], uint64(space)<<63+uint64(1000+at))
		}
	}
	return m
}

// room is one of marked memory: where the space of twins goes on.
func room(words, space, at int) api.Room {
	return api.Room{M: marked(words), B: api.Bump{Space: space, At: at, Limit: words}, T: api.Buf{At: at / 2, End: at}}
}

// put writes a head, the word of its twin and its fields into a room itself; what isn't told is what was there.
func put(x api.Room, a uint64, h api.Head, words ...uint64) uint64 {
	copy(x.M.Sp[a/4294967296-1][a%4294967296:], append([]uint64{first(h)}, words...))
	return a
}

// twice is a room once more, which shares nothing with it.
func twice(x api.Room) api.Room {
	for space, l := range x.M.Sp {
		x.M.Sp[space] = slices.Clone(l)
	}
	return x
}

// alike: are two rooms the same, word by word?
func alike(x, y api.Room) bool {
	for space := range 2 {
		if !slices.Equal(x.M.Sp[space], y.M.Sp[space]) {
			return false
		}
	}
	return x.M.Words == y.M.Words && x.B == y.B && x.T == y.T
}

// copied are logs once more, which share nothing with them.
func copied(l [][]api.Entry) [][]api.Entry {
	var out [][]api.Entry
	for _, row := range l {
		out = append(out, slices.Clone(row))
	}
	return out
}

// equal: are two rows of logs the same, entry by entry?
func equal(l, k [][]api.Entry) bool { return slices.EqualFunc(l, k, slices.Equal[[]api.Entry]) }

// words are n words from an address on.
func words(x api.Room, a uint64, n int) []uint64 {
	return x.M.Sp[a/4294967296-1][a%4294967296:][:n]
}

// fits: are n words there from an address on?
func fits(x api.Room, a uint64, n int) bool {
	space, at := a/4294967296, a%4294967296
	return (space == 1 || space == 2) && at < uint64(x.M.Words) && at+uint64(n) <= uint64(x.M.Words)
}

// long is how many words a head tells.
func long(h api.Head) int {
	if h.Tag == 255 {
		return h.Len + 1
	}
	return h.Len + 2
}

// known is the head at an address, or chapter 5's error of At.
func known(x api.Room, a uint64) (api.Head, api.Errno) {
	if !fits(x, a, 1) {
		return api.Head{}, api.ErrSpace
	}
	w := words(x, a, 1)[0]
	h := api.Head{Tag: int(w / 72057594037927936), Len: int(w / 4294967296 % 16777216), Map: w % 4294967296}
	is := h.Tag >= 1 && h.Tag <= 200 && h.Len <= 16 && h.Map>>h.Len == 0 || h.Tag == 255 && h.Len <= 65535 && h.Map == 0
	switch {
	case !is:
		return api.Head{}, api.ErrForm
	case !fits(x, a, long(h)):
		return api.Head{}, api.ErrSpace
	}
	return h, api.OK
}

// joined is the word of an object's twin, and whether there is an object, and no filler.
func joined(x api.Room, a uint64) (uint64, bool) {
	h, e := known(x, a)
	if e != api.OK || h.Tag == 255 {
		return 0, false
	}
	return words(x, a, 2)[1], true
}

// over: is an address over there? All places of the space count, there or not.
func over(x api.Room, a uint64) bool {
	return a >= address(x.B.Space, 0) && a-address(x.B.Space, 0) <= 4294967295
}

// to is what chapter 11's To answers of a right room.
func to(x api.Room, a uint64) (api.Room, uint64, api.Errno) {
	if a == 0 {
		return x, 0, api.OK
	}
	h, e := known(x, a)
	switch {
	case e != api.OK:
		return x, 0, e
	case h.Tag == 255:
		return x, 0, api.ErrKind
	case over(x, a):
		return x, a, api.OK
	}
	if w := words(x, a, 2)[1]; w != 0 {
		if over(x, w) {
			return x, w, api.OK
		}
		return x, 0, api.ErrForm
	}
	n := long(h)
	if x.B.Limit-x.B.At < n {
		return x, 0, api.ErrFull
	}
	x = twice(x)
	b := address(x.B.Space, x.B.At)
	for i, w := range words(x, a, n) {
		words(x, b, n)[i] = w
	}
	words(x, b, n)[1], words(x, a, n)[1] = 0, b
	x.B.At += n
	return x, b, api.OK
}

// get is what chapter 5's Get answers.
func get(x api.Room, a uint64, i int) (uint64, bool, api.Errno) {
	h, e := known(x, a)
	switch {
	case e != api.OK:
		return 0, false, e
	case h.Tag == 255:
		return 0, false, api.ErrKind
	case i < 0 || i >= h.Len:
		return 0, false, api.ErrField
	}
	return words(x, a, h.Len+2)[2+i], h.Map>>i&1 == 1, api.OK
}

// one is what One must answer of a right room.
func one(x api.Room, e api.Entry) (api.Room, api.Errno) {
	v, pointer, f := get(x, e.Obj, e.Field)
	if f != api.OK {
		return x, f
	}
	b, _ := joined(x, e.Obj)
	if over(x, e.Obj) || b == 0 {
		return x, api.OK
	}
	if pointer {
		then, c, f := to(x, v)
		if f != api.OK {
			return then, f
		}
		x, v = then, c
	}
	if _, _, f := get(x, b, e.Field); f != api.OK {
		return x, f
	}
	x = twice(x)
	words(x, b, e.Field+3)[2+e.Field] = v
	return x, api.OK
}

// all is what All must answer of a right room.
func all(x api.Room, l []api.Entry) (api.Room, int, api.Errno) {
	for n, e := range l {
		then, f := one(x, e)
		if f != api.OK {
			return x, n, f
		}
		x = then
	}
	return x, len(l), api.OK
}

// logs is what Logs must answer of a right room.
func logs(x api.Room, l [][]api.Entry) (api.Room, [][]api.Entry, api.Errno) {
	l = copied(l)
	for place := range l {
		for len(l[place]) > 0 {
			then, f := one(x, l[place][0])
			if f != api.OK {
				return x, l, f
			}
			x, l[place] = then, l[place][1:]
		}
	}
	return x, l, api.OK
}

// same is what Same must answer of a right room.
func same(x api.Room, a uint64) bool {
	b, is := joined(x, a)
	switch {
	case a == 0:
		return true
	case !is:
		return false
	case over(x, a):
		return true
	case !over(x, b):
		return false
	}
	h, _ := known(x, a)
	if k, e := known(x, b); e != api.OK || k != h {
		return false
	}
	right := 0
	for i := range h.Len {
		v, w := words(x, a, h.Len+2)[2+i], words(x, b, h.Len+2)[2+i]
		c, is := joined(x, v)
		switch {
		case h.Map>>i&1 == 0 && v == w:
			right++
		case h.Map>>i&1 == 0:
		case v == 0 && w == 0:
			right++
		case v == 0 || w == 0:
		case over(x, v) && v == w:
			right++
		case !over(x, v) && is && c == w:
			right++
		}
	}
	return right == h.Len
}

// wantOne holds One against its measure, and what was handed in against what it was.
func wantOne(t *testing.T, x api.Room, e api.Entry) (api.Room, api.Errno) {
	t.Helper()
	before := twice(x)
	want, g := one(before, e)
	got, f := replay.One(x, e)
	if !alike(got, want) || f != g {
		t.Fatalf("One(%+v, %+v): got %+v, %d, want %+v, %d", before, e, got, f, want, g)
	}
	if !alike(x, before) || !buf.Right(got) {
		t.Fatalf("One(%+v, %+v): what was handed in is %+v, and what came out %+v", before, e, x, got)
	}
	return got, f
}

// wantAll holds All likewise.
func wantAll(t *testing.T, x api.Room, l ...api.Entry) (api.Room, int, api.Errno) {
	t.Helper()
	before, row := twice(x), slices.Clone(l)
	want, m, g := all(before, row)
	got, n, f := replay.All(x, l)
	if !alike(got, want) || n != m || f != g {
		t.Fatalf("All(%+v, %+v): got %+v, %d, %d, want %+v, %d, %d", before, row, got, n, f, want, m, g)
	}
	if !alike(x, before) || !slices.Equal(l, row) || !buf.Right(got) {
		t.Fatalf("All(%+v, %+v): what was handed in is %+v, %+v, and what came out %+v", before, row, x, l, got)
	}
	return got, n, f
}

// wantLogs holds Logs likewise.
func wantLogs(t *testing.T, x api.Room, l ...[]api.Entry) (api.Room, [][]api.Entry, api.Errno) {
	t.Helper()
	before, rows := twice(x), copied(l)
	want, m, g := logs(before, rows)
	got, left, f := replay.Logs(x, l)
	if !alike(got, want) || !equal(left, m) || f != g {
		t.Fatalf("Logs(%+v, %+v): got %+v, %+v, %d, want %+v, %+v, %d", before, rows, got, left, f, want, m, g)
	}
	if !alike(x, before) || !equal(l, rows) || !buf.Right(got) {
		t.Fatalf("Logs(%+v, %+v): what was handed in is %+v, %+v, and what came out %+v", before, rows, x, l, got)
	}
	return got, left, f
}

// wantSame holds Same likewise.
func wantSame(t *testing.T, x api.Room, a uint64) bool {
	t.Helper()
	before := twice(x)
	got := replay.Same(x, a)
	if got != same(before, a) || !alike(x, before) {
		t.Fatalf("Same(%+v, %#x): got %v, and what was handed in is %+v", before, a, got, x)
	}
	return got
}

// P13.1: the example: a twin was made, then the object's field 0 was set to 9: One of (object, 0) sets the twin's field 0 to 9.
func TestExample(t *testing.T) {
	x := api.Room{
		M: api.Mem{Words: 16, Sp: [2][]uint64{
			{3, 3, 3, 0x01000002_00000002, 0x2_00000001, 9, 0x1_00000008, 3, 0x02000001_00000000, 0, 77, 3, 3, 3, 3, 3},
			{4, 0x01000002_00000002, 0, 5, 0, 4, 4, 4, 4, 4, 4, 4, 4, 4, 4, 4},
		}},
		B: api.Bump{Space: 1, At: 5, Limit: 16},
		T: api.Buf{At: 1, End: 3},
	}
	object := uint64(0x1_00000003)
	if replay.Same(x, object) {
		t.Error("the twin is as the object ahead of it")
	}
	want := twice(x)
	want.M.Sp[1][3] = 9
	got, e := replay.One(x, api.Entry{Obj: object, Field: 0})
	if !alike(got, want) || e != 0 || replay.Same(got, object) {
		t.Errorf("One of the field 0: got %+v, %d", got, e)
	}
	if again, e := replay.One(got, api.Entry{Obj: object, Field: 0}); !alike(again, want) || e != 0 {
		t.Errorf("One of the field 0, once more: got %+v, %d", again, e)
	}
	// The field 1 is a pointer, to an object that had no twin.
	want.M.Sp[1][4], want.M.Sp[0][9], want.B.At = 0x2_00000005, 0x2_00000005, 8
	copy(want.M.Sp[1][5:], []uint64{0x02000001_00000000, 0, 77})
	got, e = replay.One(got, api.Entry{Obj: object, Field: 1})
	if !alike(got, want) || e != 0 || !replay.Same(got, object) {
		t.Errorf("One of the field 1: got %+v, %d", got, e)
	}
	l := []api.Entry{{Obj: object, Field: 0}, {Obj: object, Field: 1}}
	if once, n, e := replay.All(x, l); !alike(once, want) || n != 2 || e != 0 {
		t.Errorf("All: got %+v, %d, %d", once, n, e)
	}
	if once, left, e := replay.Logs(x, [][]api.Entry{nil, l[:1], {}, l[1:]}); !alike(once, want) || !equal(left, make([][]api.Entry, 4)) || e != 0 {
		t.Errorf("Logs: got %+v, %+v, %d", once, left, e)
	}
	if got, e := replay.One(x, api.Entry{Obj: object, Field: 2}); !alike(got, x) || e != 7 {
		t.Errorf("One of the field 2: got %+v, %d", got, e)
	}
}

// field is what may stand in a pointer: the word, what chapter 11's To makes of it where the space goes on at the place 30, and its error.
type field struct {
	p, b uint64
	e    api.Errno
}

// mixed is a room of 64 words in which the space goes on at the place 30. At the place 28 is an object whose twin is at the place 12, both
// of them without fields yet; then there is what their pointers may lead to: nothing; the object itself, and its twin; objects that are over
// there; such without a twin; with one over there, and behind memory over there; then what is refused: objects whose twin is elsewhere, words
// that are no head's, fillers, objects and fillers that end behind the space, addresses that aren't there.
func mixed(space int) (api.Room, []field, []field) {
	x := room(64, space, 30)
	here := 1 - space
	it := put(x, address(space, 12), scalars(0), 0)
	good := []field{{0, 0, api.OK}, {put(x, address(here, 28), scalars(0), it), it, api.OK}, {it, it, api.OK}}
	for _, a := range []uint64{put(x, address(space, 0), scalars(1), 0), put(x, address(space, 3), pointers(1), address(space, 0), address(here, 0)), put(x, address(space, 6), pointers(0), address(here, 0)), put(x, address(space, 20), scalars(8), 0)} {
		good = append(good, field{a, a, api.OK})
	}
	fresh := address(space, 30)
	for _, a := range []uint64{put(x, address(here, 0), scalars(1), 0), put(x, address(here, 3), pointers(2), 0, address(here, 0), 5), put(x, address(here, 7), pointers(0), 0), put(x, address(here, 10), scalars(16), 0)} {
		good = append(good, field{a, fresh, api.OK})
	}
	for i, w := range []uint64{address(space, 0), address(space, 20), address(space, 29), address(space, 64), address(space, 4294967295)} {
		good = append(good, field{put(x, address(here, 36+2*i), pointers(0), w), w, api.OK})
	}
	bad := []field{
		{put(x, address(here, 46), pointers(0), address(here, 0)), 0, api.ErrForm}, {put(x, address(here, 48), pointers(0), 3), 0, api.ErrForm},
		{address(here, 50), 0, api.ErrForm}, {address(space, 8), 0, api.ErrForm},
		{put(x, address(here, 51), filler(3), 0), 0, api.ErrKind}, {put(x, address(space, 9), filler(2), 0), 0, api.ErrKind},
		{put(x, address(here, 54), scalars(13), 0), 0, api.ErrSpace}, {put(x, address(here, 62), filler(3), 0), 0, api.ErrSpace},
		{address(here, 64), 0, api.ErrSpace}, {address(space, 64), 0, api.ErrSpace}, {7, 0, api.ErrSpace}, {1<<63 + it, 0, api.ErrSpace},
	}
	return x, good, bad
}

// own is a mixed room in which the object at the place 28 has these fields, all of them pointers; those of its twin are others.
func own(x api.Room, l ...uint64) api.Room {
	x = twice(x)
	put(x, address(1-x.B.Space, 28), pointers(len(l)), append([]uint64{address(x.B.Space, 12)}, l...)...)
	put(x, address(x.B.Space, 12), pointers(len(l)), []uint64{0, 901, 902, 903, 904, 905, 906}[:1+len(l)]...)
	return x
}

// far are fields that an object of n fields doesn't have.
func far(n int) []int {
	return []int{math.MinInt, -1 << 32, -2, -1, n, n + 1, 16, 17, 64, 1 << 32, 1<<62 - 1, math.MaxInt}
}

// P13.1: of what object a field is told: 0, what is no address, what has no head, fillers, objects that end behind the space: the error,
// and the room as it is, ahead of what field it is; objects that are over there, or have no twin: the room as it is, if they have the field.
func TestObjects(t *testing.T) {
	for space := range 2 {
		from, _, bad := mixed(space)
		here := 1 - space
		bad = append(bad[2:], field{0, 0, api.ErrSpace}, field{1, 0, api.ErrSpace}, field{4294967295, 0, api.ErrSpace}, field{address(2, 0), 0, api.ErrSpace}, field{math.MaxUint64, 0, api.ErrSpace}, field{address(here, 4294967295), 0, api.ErrSpace})
		for _, f := range bad {
			for _, i := range append(far(0), 0, 1, 5) {
				if got, e := wantOne(t, from, api.Entry{Obj: f.p, Field: i}); !alike(got, from) || e != f.e {
					t.Errorf("One of %#x, %d: got %+v, %d, want %d", f.p, i, got, e, f.e)
				}
			}
		}
		// Neither what is over there nor what has no twin has a word that is asked for: pointers that To refuses are none here.
		x := twice(from)
		put(x, address(space, 12), pointers(4), address(here, 0), 7, address(here, 46), address(here, 0), 0)
		for _, k := range []struct {
			a uint64
			n int
		}{{address(space, 0), 1}, {address(space, 3), 1}, {address(space, 12), 4}, {address(space, 20), 8}, {address(here, 0), 1}, {address(here, 3), 2}, {address(here, 10), 16}} {
			for i := range k.n {
				if got, e := wantOne(t, x, api.Entry{Obj: k.a, Field: i}); !alike(got, x) || e != api.OK {
					t.Errorf("One of %#x, %d: got %+v, %d", k.a, i, got, e)
				}
			}
			for _, i := range far(k.n) {
				if i < 0 || i >= k.n {
					if got, e := wantOne(t, x, api.Entry{Obj: k.a, Field: i}); !alike(got, x) || e != api.ErrField {
						t.Errorf("One of %#x, %d: got %+v, %d", k.a, i, got, e)
					}
				}
			}
		}
	}
}

// P13.1: objects of each number of fields, with a twin in front of where the space goes on, and behind it: each field that is no pointer,
// whatever its word is, is that of the twin, and nothing else is changed; fields that there aren't are refused.
func TestFields(t *testing.T) {
	for space := range 2 {
		for n := range 17 {
			for _, goes := range []int{0, 1, 25, 40} {
				a, b := address(1-space, 38-n), address(space, 5)
				for i, v := range []uint64{0, 1, 5, math.MaxUint64, a, b, address(1-space, 90), first(scalars(0)), 1 << 63} {
					x := room(40, space, goes)
					put(x, a, scalars(n), append([]uint64{b}, slices.Repeat([]uint64{v}, n)...)...)
					put(x, b, api.Head{Tag: 1 + 20*i, Len: n}, a)
					for i := range n {
						want := twice(x)
						words(want, b, 18)[2+i] = v
						got, e := wantOne(t, x, api.Entry{Obj: a, Field: i})
						if !alike(got, want) || e != api.OK {
							t.Fatalf("One of the field %d of %d, %#x: got %+v, %d", i, n, v, got, e)
						}
						if again, e := wantOne(t, got, api.Entry{Obj: a, Field: i}); !alike(again, want) || e != api.OK {
							t.Fatalf("One of the field %d of %d, %#x, once more: got %+v, %d", i, n, v, again, e)
						}
					}
					for _, i := range far(n) {
						if i >= 0 && i < n {
							continue
						}
						if got, e := wantOne(t, x, api.Entry{Obj: a, Field: i}); !alike(got, x) || e != api.ErrField {
							t.Fatalf("One of the field %d of %d: got %+v, %d", i, n, got, e)
						}
					}
				}
			}
		}
	}
}

// P13.1: what is a pointer, and what isn't, for each map of an object of five fields: what pointers lead to gets twins, and no others do.
// What is a pointer hangs on the object, not on its twin.
func TestMaps(t *testing.T) {
	for space := range 2 {
		for bits := range 32 {
			x := room(60, space, 10)
			l := []uint64{address(space, 3)}
			for i := range 5 {
				l = append(l, put(x, address(1-space, 9*i+12), scalars(i), 0))
			}
			a := put(x, address(1-space, 2), api.Head{Tag: 9, Len: 5, Map: uint64(bits)}, l...)
			put(x, address(space, 3), api.Head{Tag: 9, Len: 5, Map: uint64(31 - bits)}, 0)
			want, next := slices.Clone(l[1:]), 10
			var row []api.Entry
			for i := range 5 {
				row = append(row, api.Entry{Obj: a, Field: i})
				if bits>>i&1 == 1 {
					want[i] = address(space, next)
					next += i + 2
				}
			}
			got, n, e := wantAll(t, x, row...)
			if n != 5 || e != api.OK || got.B.At != next || got.T != x.T || !slices.Equal(words(got, address(space, 5), 5), want) {
				t.Errorf("the map %b: got %+v, %d, %d", bits, got, n, e)
			}
		}
	}
}

// P13.1: one pointer, which is each of these: as the document tells it, and not as a measure does.
func TestOnePointerTold(t *testing.T) {
	for space := range 2 {
		from, good, bad := mixed(space)
		for _, f := range append(good, bad...) {
			for i := range 3 {
				l := []uint64{7, address(1-space, 46), address(1-space, 0)}
				l[i] = f.p
				x, entry := own(from, l...), api.Entry{Obj: address(1-space, 28), Field: i}
				got, e := wantOne(t, x, entry)
				if e != f.e {
					t.Errorf("a pointer %#x: got error %d, want %d", f.p, e, f.e)
				}
				if f.e != api.OK {
					if !alike(got, x) {
						t.Errorf("a pointer %#x, which is refused: got %+v", f.p, got)
					}
					continue
				}
				want := []uint64{first(pointers(3)), 0, 901, 902, 903}
				want[2+i] = f.b
				if !slices.Equal(words(got, address(space, 12), 5), want) || !slices.Equal(words(got, entry.Obj, 5), words(x, entry.Obj, 5)) || got.T != x.T {
					t.Errorf("a pointer %#x: got %+v, want %#x", f.p, got, f.b)
				}
				if f.b != address(space, 30) && got.B != x.B || f.b == address(space, 30) && got.B.At <= 30 {
					t.Errorf("a pointer %#x: the space goes on at %+v", f.p, got.B)
				}
				if again, e := wantOne(t, got, entry); !alike(again, got) || e != api.OK {
					t.Errorf("a pointer %#x, once more: got %+v, %d", f.p, again, e)
				}
			}
		}
	}
}

// P13.1: a pointer to an object that has no twin, wherever the space goes on: what is made, or ErrFull with the room as it is.
func TestFull(t *testing.T) {
	for space := range 2 {
		for n := range 17 {
			for goes := range 41 {
				x := room(40, space, goes)
				a, b := address(1-space, 0), address(space, 30)
				p := put(x, address(1-space, 10), scalars(n), 0)
				put(x, a, pointers(1), b, p)
				put(x, b, pointers(1), 0, 8)
				got, e := wantOne(t, x, api.Entry{Obj: a, Field: 0})
				switch {
				case goes+n+2 > 40:
					if !alike(got, x) || e != api.ErrFull {
						t.Fatalf("%d words from %d on: got %+v, %d", n+2, goes, got, e)
					}
				case goes+n+2 <= 30 || goes >= 33:
					c := address(space, goes)
					want := twice(x)
					copy(words(want, c, n+2), words(x, p, n+2))
					words(want, p, 2)[1], words(want, b, 3)[2], want.B.At = c, c, goes+n+2
					if !alike(got, want) || e != api.OK {
						t.Fatalf("%d words from %d on: got %+v, %d", n+2, goes, got, e)
					}
				}
			}
		}
	}
}

// P13.1: the twin's field can't be set: as chapter 5's Set refuses it; what the pointer leads to has its twin all the same, in the room as it
// is then.
func TestSetRefused(t *testing.T) {
	for space := range 2 {
		here := 1 - space
		from, good, _ := mixed(space)
		for _, k := range []struct {
			b uint64
			e api.Errno
		}{
			{3, api.ErrSpace}, {address(2, 5), api.ErrSpace}, {address(space, 64), api.ErrSpace}, {address(space, 4294967295), api.ErrSpace}, {address(here, 64), api.ErrSpace},
			{address(space, 8), api.ErrForm}, {address(here, 50), api.ErrForm}, {address(space, 60), api.ErrForm}, {address(here, 54), api.ErrSpace},
			{address(space, 9), api.ErrKind}, {address(here, 51), api.ErrKind}, {address(space, 0), api.ErrField}, {address(space, 6), api.ErrField}, {address(here, 0), api.ErrField},
		} {
			for _, f := range good {
				x := own(from, 0, f.p)
				words(x, address(here, 28), 2)[1] = k.b
				b := f.b
				if f.p == address(here, 28) {
					// It is the object itself, whose twin isn't at the place 12 any more.
					if b = k.b; !over(x, b) {
						continue
					}
				}
				want := x
				if b == address(space, 30) {
					want, _, _ = to(x, f.p)
				}
				if got, e := wantOne(t, x, api.Entry{Obj: address(here, 28), Field: 1}); !alike(got, want) || e != k.e {
					t.Errorf("a pointer %#x, the twin %#x: got %+v, %d, want %d", f.p, k.b, got, e, k.e)
				}
				// All is as it was ahead of that entry.
				if got, n, e := wantAll(t, x, api.Entry{Obj: address(here, 28), Field: 1}); !alike(got, x) || n != 0 || e != k.e {
					t.Errorf("All of a pointer %#x, the twin %#x: got %+v, %d, %d, want %d", f.p, k.b, got, n, e, k.e)
				}
			}
			x := own(from, 0, 0)
			put(x, address(here, 28), scalars(2), k.b, 5, 6)
			if got, e := wantOne(t, x, api.Entry{Obj: address(here, 28), Field: 1}); !alike(got, x) || e != k.e {
				t.Errorf("no pointer, the twin %#x: got %+v, %d, want %d", k.b, got, e, k.e)
			}
		}
	}
}

// P13.1: a twin that is elsewhere: what is there has its field set, as what is over there has; so has what is over there, and isn't as the
// object is; and what was made where the twin is, just for it.
func TestOtherTwins(t *testing.T) {
	for space := range 2 {
		here := 1 - space
		for _, k := range []struct {
			b uint64
			h api.Head
		}{{address(here, 20), pointers(2)}, {address(here, 20), scalars(4)}, {address(space, 9), scalars(2)}, {address(space, 9), api.Head{Tag: 200, Len: 16, Map: 1}}, {address(space, 35), pointers(3)}} {
			x := room(64, space, 30)
			a := put(x, address(here, 3), api.Head{Tag: 7, Len: 2, Map: 2}, k.b, 55, put(x, address(here, 0), scalars(1), 0))
			put(x, k.b, k.h, 0)
			want := twice(x)
			words(want, k.b, 3)[2] = 55
			got, e := wantOne(t, x, api.Entry{Obj: a, Field: 0})
			if !alike(got, want) || e != api.OK {
				t.Errorf("One of a scalar, the twin at %#x: got %+v, %d", k.b, got, e)
			}
			want, c, _ := to(got, address(here, 0))
			words(want, k.b, 4)[3] = c
			if got, e := wantOne(t, got, api.Entry{Obj: a, Field: 1}); !alike(got, want) || e != api.OK {
				t.Errorf("One of a pointer, the twin at %#x: got %+v, %d", k.b, got, e)
			}
		}
		// The twin is where the space goes on: nothing is there till what the pointer leads to is copied there.
		x := room(64, space, 30)
		b := address(space, 30)
		a := put(x, address(here, 3), api.Head{Tag: 7, Len: 2, Map: 2}, b, 55, put(x, address(here, 10), scalars(2), 0, 8, 9))
		if got, e := wantOne(t, x, api.Entry{Obj: a, Field: 0}); !alike(got, x) || e != api.ErrForm {
			t.Errorf("One of a scalar, nothing there: got %+v, %d", got, e)
		}
		if got, e := wantOne(t, x, api.Entry{Obj: a, Field: 1}); e != api.OK || !slices.Equal(words(got, b, 4), []uint64{first(scalars(2)), 0, 8, b}) {
			t.Errorf("One of a pointer, nothing there: got %+v, %d", got, e)
		}
		// It is where the beginning of the space is.
		x = room(64, space, 0)
		b = put(x, address(space, 5), pointers(1), 0, 4)
		a = put(x, address(here, 3), pointers(1), b, put(x, address(here, 10), scalars(2), 0, 8, 9))
		got, e := wantOne(t, x, api.Entry{Obj: a, Field: 0})
		if e != api.OK || got.B.At != 4 || !slices.Equal(words(got, address(space, 0), 4), []uint64{first(scalars(2)), 0, 8, 9}) || words(got, b, 3)[2] != address(space, 0) {
			t.Errorf("One, where the space goes on at its beginning: got %+v, %d", got, e)
		}
	}
}

// entries are such of a mixed room that has all kinds of fields: those that are done, and those that are refused, with their errors.
func entries(space int) (api.Room, []api.Entry, map[api.Entry]api.Errno) {
	here := 1 - space
	x, good, bad := mixed(space)
	x = own(x, good[8].p, good[9].p, bad[2].p, good[7].p, good[1].p, 0)
	words(x, address(here, 3), 2)[1] = put(x, address(space, 54), pointers(2), 0, 908, 909)
	put(x, address(here, 46), api.Head{Tag: 4, Len: 2, Map: 1}, put(x, address(space, 59), scalars(1), 0, 910), good[7].p, 911)
	it := address(here, 28)
	done := []api.Entry{
		{Obj: it, Field: 0}, {Obj: it, Field: 1}, {Obj: it, Field: 3}, {Obj: it, Field: 4}, {Obj: it, Field: 5},
		{Obj: address(here, 3), Field: 0}, {Obj: address(here, 46), Field: 0}, {Obj: address(here, 0), Field: 0}, {Obj: address(space, 12), Field: 2}, {Obj: address(space, 20), Field: 7},
	}
	refused := map[api.Entry]api.Errno{
		{Obj: 0, Field: 0}: api.ErrSpace, {Obj: address(here, 64), Field: 0}: api.ErrSpace, {Obj: address(here, 50), Field: 1}: api.ErrForm, {Obj: address(here, 51), Field: 0}: api.ErrKind,
		{Obj: it, Field: -1}: api.ErrField, {Obj: it, Field: 6}: api.ErrField, {Obj: address(space, 0), Field: 1}: api.ErrField, {Obj: address(here, 3), Field: 1}: api.ErrSpace,
		{Obj: it, Field: 2}: api.ErrForm, {Obj: address(here, 46), Field: 1}: api.ErrField,
	}
	return x, done, refused
}

// P13.1: All of no entries, of one, of each row of two, of the same one twice, of all: the room behind them, with how many there are; and
// the same as One, one after the other.
func TestAll(t *testing.T) {
	for space := range 2 {
		x, done, _ := entries(space)
		for _, l := range [][]api.Entry{nil, {}} {
			if got, n, e := wantAll(t, x, l...); !alike(got, x) || n != 0 || e != api.OK {
				t.Errorf("All of nothing: got %+v, %d, %d", got, n, e)
			}
		}
		for _, c := range done {
			once, e := wantOne(t, x, c)
			if got, n, f := wantAll(t, x, c); !alike(got, once) || n != 1 || e != api.OK || f != api.OK {
				t.Errorf("All of %+v: got %+v, %d, %d", c, got, n, f)
			}
			if got, n, f := wantAll(t, x, c, c, c); !alike(got, once) || n != 3 || f != api.OK {
				t.Errorf("All of three of %+v: got %+v, %d, %d", c, got, n, f)
			}
			for _, d := range done {
				want, e := wantOne(t, once, d)
				if got, n, f := wantAll(t, x, c, d); !alike(got, want) || n != 2 || e != api.OK || f != api.OK {
					t.Errorf("All of %+v, %+v: got %+v, %d, %d", c, d, got, n, f)
				}
			}
		}
		got, n, e := wantAll(t, x, append(slices.Clone(done), done...)...)
		if n != 20 || e != api.OK || got.B.At != 35 || got.T != x.T {
			t.Errorf("All of all, twice: got %+v, %d, %d", got, n, e)
		}
		want := []uint64{first(pointers(6)), 0, address(space, 54), address(space, 30), 903, address(space, 32), address(space, 12), 0}
		if !slices.Equal(words(got, address(space, 12), 8), want) || !slices.Equal(words(got, address(space, 30), 5), []uint64{first(pointers(0)), 0, first(scalars(1)), 0, words(x, address(1-space, 2), 1)[0]}) {
			t.Errorf("All of all, twice: got %+v, want %#x", got, want)
		}
	}
}

// P13.1: All, where the first entry, one in the middle, the last one is refused: how many were done, and the room as it was ahead of it:
// also where One itself makes a twin ahead of the error.
func TestAllRefused(t *testing.T) {
	for space := range 2 {
		x, done, refused := entries(space)
		for place := range len(done) + 1 {
			want, m, e := wantAll(t, x, done[:place]...)
			if m != place || e != api.OK {
				t.Fatalf("All of %+v: got %d, %d", done[:place], m, e)
			}
			for c, f := range refused {
				l := slices.Insert(slices.Clone(done), place, c)
				if got, n, e := wantAll(t, x, l...); !alike(got, want) || n != place || e != f {
					t.Errorf("All of %+v: got %+v, %d, %d, want %d, %d", l, got, n, e, place, f)
				}
			}
			// No room: the twin of what is in its way is too great.
			full := twice(x)
			put(full, address(1-space, 12), scalars(16), 0)
			put(full, address(1-space, 10), pointers(0), 0)
			words(full, address(1-space, 28), 5)[4] = address(1-space, 12)
			full.B.At = 48
			want, _, _ = wantAll(t, full, done[:place]...)
			l := slices.Insert(slices.Clone(done), place, api.Entry{Obj: address(1-space, 28), Field: 2})
			if got, n, e := wantAll(t, full, l...); !alike(got, want) || n != place || e != api.ErrFull {
				t.Errorf("All of %+v: got %+v, %d, %d, want %d", l, got, n, e, place)
			}
		}
	}
}

// P13.1: One is refused behind a twin that it made; All is as it was ahead of that entry, at each place, though what is ahead of it is done.
func TestAllRefusedLate(t *testing.T) {
	for space := range 2 {
		here := 1 - space
		x := room(64, space, 30)
		p := put(x, address(here, 0), scalars(1), 0)
		var row []api.Entry
		for i := range 5 {
			a := put(x, address(here, 10+5*i), pointers(1), address(space, 5*i), put(x, address(here, 40+4*i), scalars(2), 0))
			put(x, address(space, 5*i), pointers(1), 0)
			row = append(row, api.Entry{Obj: a, Field: 0})
		}
		late := api.Entry{Obj: put(x, address(here, 5), api.Head{Tag: 1, Len: 2, Map: 2}, address(space, 5), 0, p), Field: 1}
		once, e := wantOne(t, x, late)
		if want, _, _ := to(x, p); !alike(once, want) || e != api.ErrField {
			t.Fatalf("One of %+v: got %+v, %d", late, once, e)
		}
		for place := range len(row) + 1 {
			want, _, _ := wantAll(t, x, row[:place]...)
			l := slices.Insert(slices.Clone(row), place, late)
			if got, n, e := wantAll(t, x, l...); !alike(got, want) || n != place || e != api.ErrField || got.B.At != 30+4*place {
				t.Errorf("All of %+v: got %+v, %d, %d", l, got, n, e)
			}
			for cuts := range 64 {
				m := split(l, cuts)
				got, left, e := wantLogs(t, x, m...)
				if !alike(got, want) || e != api.ErrField || slices.Concat(left...)[0] != late {
					t.Errorf("Logs of %+v: got %+v, %+v, %d", m, got, left, e)
				}
			}
		}
	}
}

// split are logs with a row of entries in them, cut in front of some, by the bits of cuts; where it is cut twice, there is an empty one between.
func split(l []api.Entry, cuts int) [][]api.Entry {
	out := [][]api.Entry{nil}
	for i, e := range l {
		if cuts>>i&1 == 1 {
			out = append(out, nil)
			if cuts>>(i+1)&1 == 1 {
				out = append(out, []api.Entry{})
			}
		}
		out[len(out)-1] = append(out[len(out)-1], e)
	}
	if cuts%3 == 0 {
		out = append(out, nil)
	}
	return out
}

// P13.2: no logs, and logs without entries: the room, and the logs, as they are.
func TestNoEntries(t *testing.T) {
	for space := range 2 {
		x, _, _ := entries(space)
		for _, l := range [][][]api.Entry{nil, {}, {nil}, {{}}, {nil, {}, nil}, make([][]api.Entry, 100)} {
			if got, left, e := wantLogs(t, x, l...); !alike(got, x) || len(left) != len(l) || e != api.OK {
				t.Errorf("Logs of %+v: got %+v, %+v, %d", l, got, left, e)
			}
		}
	}
}

// P13.2: one log, and many, with empty ones ahead of, between and behind others: as All of all entries, one log behind the other; behind
// it all are empty, as many as there were.
func TestLogs(t *testing.T) {
	for space := range 2 {
		x, done, _ := entries(space)
		for n := range 6 {
			row := done[:n]
			want, m, f := wantAll(t, x, row...)
			for cuts := range 1 << n {
				l := split(row, cuts)
				got, left, e := wantLogs(t, x, l...)
				if !alike(got, want) || m != n || e != f || e != api.OK || len(left) != len(l) || len(slices.Concat(left...)) != 0 {
					t.Errorf("Logs of %+v: got %+v, %+v, %d", l, got, left, e)
				}
			}
		}
		// The order counts: the first entry of the first log is the first one, whatever is in the others.
		l := [][]api.Entry{nil, {done[1]}, {}, {done[0], done[2]}, nil}
		if got, _, e := wantLogs(t, x, l...); e != api.OK || words(got, address(space, 15), 1)[0] != address(space, 30) || words(got, address(space, 17), 1)[0] != address(space, 32) {
			t.Errorf("Logs of %+v: got %+v, %d", l, got, e)
		}
		l = [][]api.Entry{nil, {done[2], done[0]}, {}, {done[1]}, nil}
		if got, _, e := wantLogs(t, x, l...); e != api.OK || words(got, address(space, 15), 1)[0] != address(space, 33) || words(got, address(space, 17), 1)[0] != address(space, 30) {
			t.Errorf("Logs of %+v: got %+v, %d", l, got, e)
		}
		// A long log, of the longest length and longer.
		for _, n := range []int{64, 65, 500} {
			long := slices.Repeat(done, n/len(done)+1)[:n]
			want, _, _ := wantAll(t, x, done...)
			if got, left, e := wantLogs(t, x, nil, long, nil, long); !alike(got, want) || !equal(left, make([][]api.Entry, 4)) || e != api.OK {
				t.Errorf("Logs of %d entries, twice: got %+v, %+v, %d", n, got, left, e)
			}
		}
	}
}

// P13.2: an error at each place of many logs: what was done ahead is taken off, that entry and all behind it are still there, and the room is
// as it was ahead of it.
func TestLogsRefused(t *testing.T) {
	for space := range 2 {
		x, done, refused := entries(space)
		row := []api.Entry{done[0], done[5], done[1], done[2]}
		for place := range len(row) + 1 {
			want, _, _ := wantAll(t, x, row[:place]...)
			for c, f := range refused {
				l := slices.Insert(slices.Clone(row), place, c)
				for cuts := range 32 {
					m := split(l, cuts)
					got, left, e := wantLogs(t, x, m...)
					if !alike(got, want) || e != f || len(left) != len(m) || !slices.Equal(slices.Concat(left...), l[place:]) {
						t.Errorf("Logs of %+v: got %+v, %+v, %d, want %d", m, got, left, e, f)
					}
					for i, k := range left {
						// What is left of a log is its end.
						if !slices.Equal(k, m[i][len(m[i])-len(k):]) {
							t.Errorf("Logs of %+v: got %+v", m, left)
						}
					}
				}
			}
		}
		c := api.Entry{Obj: address(1-space, 28), Field: 6}
		l := [][]api.Entry{{}, {done[0], done[1], c, done[2], c}, nil, {c, done[0]}, {}}
		_, left, e := wantLogs(t, x, l...)
		if e != api.ErrField || !equal(left, [][]api.Entry{nil, {c, done[2], c}, nil, {c, done[0]}, nil}) {
			t.Errorf("Logs of %+v: got %+v, %d", l, left, e)
		}
	}
}

// P13.1, P13.2: all rows of three entries of a room with a bit of all, where the space goes on at places where all have room, where some
// have, where none has: All of them, and Logs, cut at some place.
func TestMeasured(t *testing.T) {
	for space := range 2 {
		x, l, refused := entries(space)
		l = append(slices.Clone(l), api.Entry{Obj: address(1-space, 46), Field: 1}, api.Entry{Obj: address(1-space, 28), Field: 6})
		for c := range refused {
			wantOne(t, x, c)
		}
		for _, goes := range []int{30, 58, 59, 60, 61, 62, 63, 64} {
			x := twice(x)
			x.B.At = goes
			for i, c := range l {
				for j, d := range l {
					wantAll(t, x, c, d)
					for k, e := range l {
						cuts := (i + 3*j + 5*k + goes) % 8
						wantAll(t, x, c, d, e)
						wantLogs(t, x, split([]api.Entry{c, d, e}, cuts)...)
					}
				}
			}
		}
	}
}

// P13.1: a room with a bit of all, wherever its space goes on, and whatever T is: One of each field of what is at each place of both spaces.
func TestEveryPlace(t *testing.T) {
	for space := range 2 {
		x, _, _ := entries(space)
		for goes := range 65 {
			x.B.At = goes
			x.T = []api.Buf{{}, {At: 0, End: goes}, {At: goes / 2, End: goes}, {At: goes / 3, End: goes / 2}, {At: goes, End: goes}}[goes%5]
			for at := range 66 {
				for _, i := range []int{-1, 0, 1, 2, 3, 5, 15, 16} {
					wantOne(t, x, api.Entry{Obj: address(1-space, at), Field: i})
					wantOne(t, x, api.Entry{Obj: address(space, at), Field: i})
				}
				wantSame(t, x, address(1-space, at))
				wantSame(t, x, address(space, at))
			}
		}
	}
}

// P13.2: Same of 0, of objects that are over there, of what is no object, here and there, of an object without a twin, of one whose
// twin is elsewhere.
func TestSameOfObjects(t *testing.T) {
	for space := range 2 {
		here := 1 - space
		x, _, bad := mixed(space)
		for _, a := range []uint64{0, address(space, 0), address(space, 3), address(space, 6), address(space, 12), address(space, 20), address(here, 28)} {
			if !wantSame(t, x, a) {
				t.Errorf("Same of %#x: got no", a)
			}
		}
		for _, f := range bad {
			if wantSame(t, x, f.p) {
				t.Errorf("Same of %#x: got yes", f.p)
			}
		}
		for _, a := range []uint64{1, 4294967295, address(2, 0), math.MaxUint64, address(here, 4294967295), address(space, 4294967295), address(here, 0), address(here, 3), address(here, 7), address(here, 10)} {
			if wantSame(t, x, a) {
				t.Errorf("Same of %#x: got yes", a)
			}
		}
		// The twin is the same as the object, but for where it is; and it isn't there.
		for n := range 17 {
			x := room(80, space, 30)
			l := slices.Repeat([]uint64{5}, n)
			a := put(x, address(here, 3), scalars(n), append([]uint64{0}, l...)...)
			put(x, address(here, 40), scalars(n), append([]uint64{0}, l...)...)
			put(x, address(space, 40), scalars(n), append([]uint64{a}, l...)...)
			put(x, address(space, 79-n), scalars(n), append([]uint64{0}, l...)...)
			for b, want := range map[uint64]bool{0: false, a: false, 7: false, address(here, 40): false, address(space, 40): true, address(space, 39): false, address(space, 79-n): false, address(space, 80): false, address(space, 4294967295): false, address(2, 40): false, 1<<63 + address(space, 40): false} {
				words(x, a, 2)[1] = b
				if wantSame(t, x, a) != want {
					t.Errorf("Same of an object of %d fields, its twin at %#x: got %v", n, b, !want)
				}
			}
		}
	}
}

// P13.2: Same of an object whose twin has another head: another tag, fewer fields, more of them, other pointers; or is a filler.
func TestSameOfHeads(t *testing.T) {
	for space := range 2 {
		x := room(64, space, 30)
		a, b := address(1-space, 3), address(space, 9)
		put(x, a, api.Head{Tag: 7, Len: 3, Map: 5}, b, 0, 0, 0, 0, 0)
		for _, h := range []api.Head{{Tag: 6, Len: 3, Map: 5}, {Tag: 8, Len: 3, Map: 5}, {Tag: 7, Len: 2, Map: 1}, {Tag: 7, Len: 4, Map: 5}, {Tag: 7, Len: 3, Map: 4}, {Tag: 7, Len: 3, Map: 7}, {Tag: 7, Len: 3}, filler(4), filler(1), {Tag: 201, Len: 3}, {}} {
			put(x, b, h, 0, 0, 0, 0, 0)
			if wantSame(t, x, a) {
				t.Errorf("Same, where the twin's head is %+v: got yes", h)
			}
		}
		put(x, b, api.Head{Tag: 7, Len: 3, Map: 5}, 0, 0, 0, 0, 0)
		if !wantSame(t, x, a) {
			t.Error("Same, where the heads are the same: got no")
		}
		put(x, b, api.Head{Tag: 7, Len: 3, Map: 5}, a, 0, 0, 0, 0)
		if !wantSame(t, x, a) {
			t.Error("Same, where the twin has a word for its twin: got no")
		}
	}
}

// P13.2: Same of objects of each number of fields without a pointer: each of them counts, and each bit of it; no word leads anywhere.
func TestSameOfScalars(t *testing.T) {
	for space := range 2 {
		for n := range 17 {
			x := room(64, space, 30)
			p := put(x, address(1-space, 40), scalars(1), address(space, 60))
			a, b := address(1-space, 3), address(space, 9)
			l := []uint64{0, 5, p, address(space, 60), a, b, math.MaxUint64, 0, 1, 2, 3, 4, 5, 6, 7, 8}[:n]
			put(x, a, scalars(n), append([]uint64{b}, l...)...)
			put(x, b, scalars(n), append([]uint64{0}, l...)...)
			if !wantSame(t, x, a) {
				t.Errorf("Same of %d scalars: got no", n)
			}
			for i := range n {
				for _, v := range []uint64{l[i] ^ 1, l[i] ^ 1<<31, l[i] ^ 1<<63, l[i] + 1, address(space, 60), 0} {
					words(x, b, 18)[2+i] = v
					if wantSame(t, x, a) != (v == l[i]) {
						t.Errorf("Same of %d scalars, of which %d is %#x: got %v", n, i, v, v != l[i])
					}
				}
				words(x, b, 18)[2+i] = l[i]
			}
		}
	}
}

// P13.2: Same of an object with a pointer among others: which words in both are the same, as the document tells it.
func TestSameOfPointers(t *testing.T) {
	for space := range 2 {
		here := 1 - space
		from, good, bad := mixed(space)
		// Of what is here and has a twin, that is the one word that is right; of what has none, none is.
		right := map[uint64]uint64{0: 0, address(here, 46): address(here, 0), address(here, 48): 3}
		for _, f := range good {
			if f.b != address(space, 30) {
				right[f.p] = f.b
			}
		}
		all := []uint64{1, 5, math.MaxUint64, address(space, 30), address(space, 63), address(space, 64), address(space, 4294967295), address(here, 63), address(2, 0)}
		for _, f := range append(good, bad...) {
			all = append(all, f.p)
		}
		for _, p := range all {
			if p/4294967296 == uint64(space+1) {
				right[p] = p
			}
		}
		for i := range 3 {
			for _, v := range all {
				for _, w := range all {
					x := own(from, 0, 0, 0)
					words(x, address(here, 28), 5)[2+i] = v
					copy(words(x, address(space, 12), 5)[2:], []uint64{0, 0, 0})
					words(x, address(space, 12), 5)[2+i] = w
					b, is := right[v]
					if got := wantSame(t, x, address(here, 28)); got != (is && b == w) {
						t.Errorf("Same, where the pointer %d is %#x, and the twin's %#x: got %v", i, v, w, got)
					}
				}
			}
		}
	}
}

// P13.2: objects of sixteen pointers: each of them counts.
func TestSameOfMany(t *testing.T) {
	for space := range 2 {
		x := room(64, space, 40)
		c := address(space, 30)
		p := put(x, address(1-space, 50), scalars(1), c)
		a, b := address(1-space, 3), address(space, 9)
		put(x, a, pointers(16), append([]uint64{b}, slices.Repeat([]uint64{p, 0, c, a}, 4)...)...)
		put(x, b, pointers(16), append([]uint64{0}, slices.Repeat([]uint64{c, 0, c, b}, 4)...)...)
		if !wantSame(t, x, a) {
			t.Error("Same of sixteen pointers: got no")
		}
		for i := range 16 {
			was := words(x, b, 18)[2+i]
			for _, w := range []uint64{0, p, a, b, c, address(space, 31)} {
				words(x, b, 18)[2+i] = w
				if wantSame(t, x, a) != (w == was) {
					t.Errorf("Same of sixteen pointers, of which %d is %#x: got %v", i, w, w != was)
				}
			}
			words(x, b, 18)[2+i] = was
		}
	}
}

// number is the next of a row of numbers all over, the same ones each time.
func number(seed *uint64, n int) int {
	*seed = *seed*6364136223846793005 + 1442695040888963407
	return int(*seed >> 33 % uint64(n))
}

// filled is a room whose other space is full of objects that lead to each other, and to nothing, fillers between them: and their addresses.
func filled(words, space, at int, seed *uint64) (api.Room, []uint64) {
	x := room(words, space, at)
	var l []uint64
	for to := 0; words-to >= 2; {
		n := min(number(seed, 7), words-to-2)
		if a := address(1-space, to); to > 0 && number(seed, 5) == 0 {
			put(x, a, filler(n+2))
		} else {
			l = append(l, put(x, a, api.Head{Tag: 1 + number(seed, 200), Len: n, Map: uint64(number(seed, 1<<n))}, 0))
		}
		to += n + 2
	}
	for _, a := range l {
		h, _ := known(x, a)
		for i := range h.Len {
			written(x, l, a, i, seed)
		}
	}
	return x, l
}

// written sets a field in a room itself: a pointer to nothing or one of some objects, a scalar to some number.
func written(x api.Room, l []uint64, a uint64, i int, seed *uint64) {
	_, pointer, _ := get(x, a, i)
	v := uint64(number(seed, 1<<30))
	if pointer {
		v = append(slices.Clone(l), 0, 0)[number(seed, len(l)+2)]
	}
	words(x, a, i+3)[2+i] = v
}

// copies is a room in which some of the objects have twins, gone through up to a place as far as there was room; then fields were written,
// and logged: in logs of some threads, some of them twice.
func copies(x api.Room, l []uint64, seed *uint64) (api.Room, int, [][]api.Entry) {
	at := x.B.At
	for range 1 + number(seed, 4) {
		if then, _, e := twin.To(x, l[number(seed, len(l))]); e == api.OK {
			x = then
		}
	}
	for range number(seed, 8) {
		if then, b, e := scan.One(x, at); e == api.OK {
			x, at = then, b
		}
	}
	x = twice(x)
	entries := make([][]api.Entry, 1+number(seed, 4))
	for range number(seed, 30) {
		a := l[number(seed, len(l))]
		h, _ := known(x, a)
		for range min(h.Len, 1) {
			th, i := number(seed, len(entries)), number(seed, h.Len)
			written(x, l, a, i, seed)
			entries[th] = append(entries[th], api.Entry{Obj: a, Field: i})
		}
	}
	return x, at, entries
}

// P13.3: whole spaces of objects that lead to each other: some get twins, fields are written, all that was written is written to the twins:
// behind it each field that was written is the twin's, and once all that was made is gone through, too, all objects that have a twin are
// the same as that; done twice it comes to the same.
func TestWholeSpace(t *testing.T) {
	full, ended := 0, 0
	for seed := range uint64(600) {
		step := seed
		n := []int{16, 17, 40, 100, 300}[seed%5]
		x, l := filled(n, int(seed/5%2), []int{0, 1, n / 6, n / 3, n / 2}[seed/10%5], &step)
		x, at, entries := copies(x, l, &step)
		got, left, e := wantLogs(t, x, entries...)
		if e != api.OK {
			if full++; e != api.ErrFull {
				t.Fatalf("%d: Logs: got error %d", seed, e)
			}
			continue
		}
		if got.T != x.T || len(slices.Concat(left...)) != 0 {
			t.Fatalf("%d: Logs: got %+v, %+v", seed, got, left)
		}
		for _, c := range slices.Concat(entries...) {
			wantWritten(t, x, got, c)
		}
		end, _, e := scan.All(got, at)
		if e != api.OK {
			full++
			continue
		}
		ended++
		for _, a := range l {
			if b, _ := joined(end, a); wantSame(t, end, a) != (b != 0) {
				t.Fatalf("%d: behind all: Same of %#x: got %v, of %+v", seed, a, b == 0, end)
			}
		}
		if again, _, e := wantLogs(t, end, entries...); !alike(again, end) || e != api.OK {
			t.Fatalf("%d: Logs, behind all: got %+v, %d, it was %+v", seed, again, e, end)
		}
	}
	if full < 40 || ended < 200 {
		t.Errorf("so many were full: %d, and so many came to their end: %d", full, ended)
	}
}

// wantWritten: a field that was written is the twin's, if the object had a twin ahead of it; and it is the object's still. Once more, that
// comes to the same.
func wantWritten(t *testing.T, x, got api.Room, e api.Entry) {
	t.Helper()
	b, _ := joined(x, e.Obj)
	v, pointer, _ := get(got, e.Obj, e.Field)
	if u, _, _ := get(x, e.Obj, e.Field); u != v {
		t.Fatalf("One of %+v: the field was %#x, and is %#x", e, u, v)
	}
	if b == 0 {
		return
	}
	if pointer && v != 0 {
		v, _ = joined(got, v)
	}
	if w, _, _ := get(got, b, e.Field); w != v || v == 0 != (w == 0) {
		t.Fatalf("One of %+v: the twin's field is %#x, want %#x", e, w, v)
	}
	if again, f := wantOne(t, got, e); !alike(again, got) || f != api.OK {
		t.Fatalf("One of %+v, once more: got %+v, %d", e, again, f)
	}
}

// P13.3: the longest space: a log of all fields of it.
func TestLongest(t *testing.T) {
	for space := range 2 {
		x := room(4096, space, 2048)
		var l []api.Entry
		for at := 0; at < 2048; at += 32 {
			a, b := address(1-space, at), address(space, at)
			put(x, a, pointers(16), append([]uint64{b}, slices.Repeat([]uint64{address(1-space, 2048+at), a}, 8)...)...)
			put(x, address(1-space, 2048+at), scalars(16), 0)
			put(x, b, pointers(16), slices.Repeat([]uint64{0}, 17)...)
			for i := range 16 {
				l = append(l, api.Entry{Obj: a, Field: i})
			}
		}
		got, n, e := replay.All(x, l)
		if n != 1024 || e != api.OK || got.B.At != 2048+64*18 {
			t.Fatalf("All: got %d, %d, up to %d", n, e, got.B.At)
		}
		for at := 0; at < 2048; at += 32 {
			if !replay.Same(got, address(1-space, at)) || replay.Same(x, address(1-space, at)) {
				t.Errorf("Same of the object at %d", at)
			}
		}
		want, _, _ := all(x, l)
		if !alike(got, want) {
			t.Error("All: the room isn't what it has to be")
		}
	}
}

// R3: what comes out is one's own: rooms that were made of one don't see what is made in another.
func TestRoomsAreValues(t *testing.T) {
	for space := range 2 {
		x, done, refused := entries(space)
		l := slices.Clone(done)
		for c := range refused {
			l = append(l, c)
		}
		rooms, before := []api.Room{x}, []api.Room{twice(x)}
		for range 3 {
			for _, from := range rooms {
				one, _ := replay.One(from, done[1])
				all, _, _ := replay.All(from, l)
				logs, _, _ := replay.Logs(from, [][]api.Entry{{done[0], done[2]}, l})
				replay.Same(from, address(1-space, 28))
				for _, k := range []api.Room{one, all, logs} {
					// A field that is set in what came out is seen nowhere else, either.
					k.M, _ = object.Set(k.M, address(space, 12), 1, 5)
					rooms, before = append(rooms, k), append(before, twice(k))
				}
				if len(rooms) > 60 {
					break
				}
			}
			for i := range rooms {
				if !alike(rooms[i], before[i]) {
					t.Fatalf("a room was %+v, and is %+v", before[i], rooms[i])
				}
			}
		}
	}
}

// R3: the logs that come out are one's own: neither is seen in the other, nor in what was handed in, what is written into one of them later,
// or put behind it; whatever room the logs have behind their ends.
func TestLogsAreValues(t *testing.T) {
	x, done, _ := entries(0)
	refused := api.Entry{Obj: 0, Field: 3}
	for place := range 5 {
		flat := slices.Clone(done)
		flat[place] = refused
		// All of one row, each with room that is the next one's.
		l := [][]api.Entry{flat[0:1], flat[1:1], flat[1:3], flat[3:5], flat[5:7], flat[7:7]}
		kept, all := copied(l), slices.Clone(flat)
		_, left, e := replay.Logs(x, l)
		if e != api.ErrSpace || len(left) != 6 {
			t.Fatalf("Logs: got %+v, %d", left, e)
		}
		was := copied(left)
		for i := range left {
			grown := append(left[i], api.Entry{Obj: 99, Field: i})
			grown[0].Field = 77
			for j := range left {
				if j != i && !slices.Equal(left[j], was[j]) {
					t.Fatalf("Logs: the log %d was %+v, and is %+v", j, was[j], left[j])
				}
			}
			left[i] = slices.Clone(was[i])
		}
		left[0] = append(left[0], refused)
		if !equal(l, kept) || !slices.Equal(flat, all) {
			t.Fatalf("Logs: what was handed in was %+v, and is %+v", kept, l)
		}
		_, left, _ = replay.Logs(x, l)
		for i := range flat {
			flat[i] = api.Entry{Obj: 98, Field: 97}
		}
		if !equal(left, was) {
			t.Fatalf("Logs: what came out was %+v, and is %+v", was, left)
		}
	}
}

// R4: the same once more, whatever was called between.
func TestSameOnceMore(t *testing.T) {
	x, done, refused := entries(1)
	for _, c := range done {
		one, e := replay.One(x, c)
		replay.All(one, done)
		for d := range refused {
			replay.Logs(one, [][]api.Entry{{c, d}})
		}
		replay.Same(one, c.Obj)
		two, f := replay.One(x, c)
		if !alike(one, two) || e != f {
			t.Errorf("One: got %d, and %d", e, f)
		}
	}
}

// R1: of rooms that aren't right nothing is promised, but that every call ends, and that what was handed in is as it was.
func TestEveryCallEnds(t *testing.T) {
	x, done, refused := entries(0)
	y, too, _ := entries(1)
	l := append(slices.Clone(done), too...)
	for c := range refused {
		l = append(l, c)
	}
	for _, a := range []uint64{0, 7, address(0, 28), address(1, 28), address(0, 62), address(1, 63), address(0, 4294967295), math.MaxUint64} {
		for _, i := range []int{math.MinInt, -1, 0, 1, 5, 16, math.MaxInt} {
			l = append(l, api.Entry{Obj: a, Field: i})
		}
	}
	places := []int{math.MinInt, -1, 0, 12, 30, 63, 64, 65, 4097, 1<<62 + 1, math.MaxInt - 1, math.MaxInt}
	memory := []api.Mem{{}, {Words: 64}, {Words: math.MaxInt}, {Words: math.MinInt}, {Words: math.MaxInt, Sp: y.M.Sp}, {Words: 30, Sp: x.M.Sp}, {Words: 64, Sp: [2][]uint64{x.M.Sp[0], nil}}, {Words: 64, Sp: [2][]uint64{nil, x.M.Sp[1]}}, {Words: 64, Sp: [2][]uint64{x.M.Sp[0][:29], x.M.Sp[1][:13]}}, {Words: 70, Sp: [2][]uint64{x.M.Sp[0], y.M.Sp[1]}}, x.M, y.M}
	for _, m := range memory {
		for _, space := range []int{math.MinInt, -1, 0, 1, 2, math.MaxInt} {
			for _, goes := range places {
				limit := places[(goes&7+space&3)%len(places)]
				in := api.Room{M: m, B: api.Bump{Space: space, At: goes, Limit: limit}, T: api.Buf{At: limit, End: goes}}
				before, kept := twice(in), slices.Clone(l)
				for _, c := range l {
					replay.One(in, c)
					replay.Same(in, c.Obj)
					if got, n, e := replay.All(in, []api.Entry{c}); e == api.OK && n != 1 || e != api.OK && (n != 0 || !alike(got, before)) {
						t.Fatalf("All(%+v, %+v): got %+v, %d, %d", in, c, got, n, e)
					}
				}
				replay.All(in, l)
				replay.Logs(in, [][]api.Entry{l, nil, l[:5]})
				if !alike(in, before) || !slices.Equal(l, kept) {
					t.Fatalf("a room was %+v, and is %+v", before, in)
				}
			}
		}
	}
}
