package flip_test

import (
	"math"
	"slices"
	"testing"

	"dovecote/api"
	"dovecote/buf"
	"dovecote/flip"
	"dovecote/object"
	"dovecote/scan"
	"dovecote/twin"
)

// address is the measure: told by whole numbers, not by the layers below. So are all measures here.
func address(space, at int) uint64 { return uint64(space+1)*4294967296 + uint64(at) }

// first is a head's word.
func first(h api.Head) uint64 {
	return uint64(h.Tag)*72057594037927936 + uint64(h.Len)*4294967296 + h.Map
}

// scalars is the head of an object of so many fields, none of which is a pointer.
func scalars(n int) api.Head { return api.Head{Tag: n + 1, Len: n} }

// pointers is the head of an object all fields of which are pointers.
func pointers(n int) api.Head { return api.Head{Tag: 200 - n, Len: n, Map: 1<<n - 1} }

// filler is the head of a filler of so many words.
func filler(n int) api.Head { return api.Head{Tag: 255, Len: n - 1} }

// marked is memory in which no two words are the same, none is 0, none is a head's, and none an address.
func marked(words int) api.Mem {
	m := api.Mem{Words: words}
	for space := range 2 {
		for at := range words {
			m.Sp[space] = append(m.Sp[space], uint64(space)<<63+uint64(1000+at))
		}
	}
	return m
}

// room is one of marked memory: where the space of twins goes on.
func room(words, space, at int) api.Room {
	return api.Room{M: marked(words), B: api.Bump{Space: space, At: at, Limit: words}, T: api.Buf{At: at / 2, End: at}}
}

// put writes a head, the word of its twin and its fields into a room itself; what isn't told is what was there.
func put(x api.Room, a uint64, h api.Head, words ...uint64) uint64 {
	copy(x.M.Sp[a/4294967296-1][a%4294967296:], append([]uint64{first(h)}, words...))
	return a
}

// twice is a room once more, which shares nothing with it.
func twice(x api.Room) api.Room {
	for space, l := range x.M.Sp {
		x.M.Sp[space] = slices.Clone(l)
	}
	return x
}

// alike: are two rooms the same, word by word?
func alike(x, y api.Room) bool {
	for space := range 2 {
		if !slices.Equal(x.M.Sp[space], y.M.Sp[space]) {
			return false
		}
	}
	return x.M.Words == y.M.Words && x.B == y.B && x.T == y.T
}

// copied are rows, of handles or of entries, once more, which share nothing with them.
func copied[T any](l [][]T) [][]T {
	var out [][]T
	for _, row := range l {
		out = append(out, slices.Clone(row))
	}
	return out
}

// equal: are two rows of rows the same?
func equal[T comparable](l, k [][]T) bool { return slices.EqualFunc(l, k, slices.Equal[[]T]) }

// words are n words from an address on.
func words(x api.Room, a uint64, n int) []uint64 {
	return x.M.Sp[a/4294967296-1][a%4294967296:][:n]
}

// fits: are n words there from an address on?
func fits(x api.Room, a uint64, n int) bool {
	space, at := a/4294967296, a%4294967296
	return (space == 1 || space == 2) && at < uint64(x.M.Words) && at+uint64(n) <= uint64(x.M.Words)
}

// long is how many words a head tells.
func long(h api.Head) int {
	if h.Tag == 255 {
		return h.Len + 1
	}
	return h.Len + 2
}

// known is the head at an address, or chapter 5's error of At.
func known(x api.Room, a uint64) (api.Head, api.Errno) {
	if !fits(x, a, 1) {
		return api.Head{}, api.ErrSpace
	}
	w := words(x, a, 1)[0]
	h := api.Head{Tag: int(w / 72057594037927936), Len: int(w / 4294967296 % 16777216), Map: w % 4294967296}
	is := h.Tag >= 1 && h.Tag <= 200 && h.Len <= 16 && h.Map>>h.Len == 0 || h.Tag == 255 && h.Len <= 65535 && h.Map == 0
	switch {
	case !is:
		return api.Head{}, api.ErrForm
	case !fits(x, a, long(h)):
		return api.Head{}, api.ErrSpace
	}
	return h, api.OK
}

// over: is an address over there? All places of the space count, there or not.
func over(x api.Room, a uint64) bool {
	return a >= address(x.B.Space, 0) && a-address(x.B.Space, 0) <= 4294967295
}

// to is what chapter 11's To answers of a right room.
func to(x api.Room, a uint64) (api.Room, uint64, api.Errno) {
	if a == 0 {
		return x, 0, api.OK
	}
	h, e := known(x, a)
	switch {
	case e != api.OK:
		return x, 0, e
	case h.Tag == 255:
		return x, 0, api.ErrKind
	case over(x, a):
		return x, a, api.OK
	}
	if w := words(x, a, 2)[1]; w != 0 {
		if over(x, w) {
			return x, w, api.OK
		}
		return x, 0, api.ErrForm
	}
	n := long(h)
	if x.B.Limit-x.B.At < n {
		return x, 0, api.ErrFull
	}
	x = twice(x)
	return made(x, a, n), address(x.B.Space, x.B.At), api.OK
}

// made writes an object's twin, of so many words, into a room itself, where its space goes on.
func made(x api.Room, a uint64, n int) api.Room {
	b := address(x.B.Space, x.B.At)
	for i, w := range words(x, a, n) {
		words(x, b, n)[i] = w
	}
	words(x, b, n)[1], words(x, a, n)[1] = 0, b
	x.B.At += n
	return x
}

// field is an object's field, whether it is a pointer, or chapter 5's error of Get.
func field(x api.Room, a uint64, i int) (uint64, bool, api.Errno) {
	h, e := known(x, a)
	switch {
	case e != api.OK:
		return 0, false, e
	case h.Tag == 255:
		return 0, false, api.ErrKind
	case i < 0 || i >= h.Len:
		return 0, false, api.ErrField
	}
	return words(x, a, h.Len+2)[2+i], h.Map>>i&1 == 1, api.OK
}

// entered is what chapter 13's One answers of a right room.
func entered(x api.Room, e api.Entry) (api.Room, api.Errno) {
	v, pointer, f := field(x, e.Obj, e.Field)
	if f != api.OK {
		return x, f
	}
	b := words(x, e.Obj, 2)[1]
	if over(x, e.Obj) || b == 0 {
		return x, api.OK
	}
	if pointer {
		if x, v, f = to(x, v); f != api.OK {
			return x, f
		}
	}
	if _, _, f := field(x, b, e.Field); f != api.OK {
		return x, f
	}
	x = twice(x)
	words(x, b, e.Field+3)[2+e.Field] = v
	return x, api.OK
}

// swept is what chapter 12's All comes to in a right room.
func swept(x api.Room, at int) (api.Room, api.Errno) {
	if at < 0 || at > x.B.At {
		return x, api.ErrArg
	}
	for at < x.B.At {
		a := address(x.B.Space, at)
		h, e := known(x, a)
		if e != api.OK {
			return x, e
		}
		if at += long(h); at > x.B.At {
			return x, api.ErrForm
		}
		for i := range h.Len {
			if h.Tag == 255 || h.Map>>i&1 == 0 {
				continue
			}
			then, b, e := to(x, words(x, a, h.Len+2)[2+i])
			if e != api.OK {
				return x, e
			}
			x = twice(then)
			words(x, a, h.Len+2)[2+i] = b
		}
	}
	return x, api.OK
}

// once are the addresses in some rows that aren't 0, each by its first place.
func once(rows [][]uint64) []uint64 {
	var l []uint64
	for _, a := range slices.Concat(rows...) {
		if a != 0 && !slices.Contains(l, a) {
			l = append(l, a)
		}
	}
	return l
}

// each is what chapter 11's Each answers of a right room.
func each(x api.Room, l []uint64) (api.Room, []uint64, api.Errno) {
	var twins []uint64
	for _, a := range l {
		then, b, e := to(x, a)
		if e != api.OK {
			return x, nil, e
		}
		x, twins = then, append(twins, b)
	}
	return x, twins, api.OK
}

// finish is what Finish must answer of a right room.
func finish(x api.Room, at int, rows [][]uint64, logs [][]api.Entry) (api.Room, []uint64, api.Errno) {
	then := x
	for _, e := range slices.Concat(logs...) {
		next, f := entered(then, e)
		if f != api.OK {
			return x, nil, f
		}
		then = next
	}
	then, twins, e := each(then, once(rows))
	if e != api.OK {
		return x, nil, e
	}
	then, e = swept(then, at)
	if e != api.OK {
		return x, nil, e
	}
	return then, twins, api.OK
}

// turn is what Turn must answer of a right room.
func turn(x api.Room, rows [][]uint64) (api.Room, [][]uint64, api.Errno) {
	all := once(rows)
	then, twins, e := each(x, all)
	if e != api.OK {
		return x, rows, e
	}
	turned := copied(rows)
	for _, row := range turned {
		for h, a := range row {
			if p := slices.Index(all, a); p >= 0 {
				row[h] = twins[p]
			}
		}
	}
	return then, turned, api.OK
}

// whole is what Whole must answer of a right room.
func whole(x api.Room, at int, rows [][]uint64, logs [][]api.Entry) (api.Flip, api.Errno) {
	x, _, e := finish(x, at, rows, logs)
	if e != api.OK {
		return api.Flip{}, e
	}
	x, turned, e := turn(x, rows)
	if e != api.OK {
		return api.Flip{}, e
	}
	x = emptied(x, 1-x.B.Space)
	x.T = api.Buf{}
	return api.Flip{X: x, Rows: turned}, api.OK
}

// emptied is a room in which all words of a space are 0.
func emptied(x api.Room, space int) api.Room {
	x = twice(x)
	for at := range x.M.Sp[space] {
		x.M.Sp[space][at] = 0
	}
	return x
}

// taken is what Copy must answer.
func taken(m api.Mem, space int, rows [][]uint64) (api.Flip, api.Errno) {
	right := m.Words >= 16 && m.Words <= 4096 && len(m.Sp[0]) == m.Words && len(m.Sp[1]) == m.Words
	if !right || space < 0 || space > 1 {
		return api.Flip{}, api.ErrArg
	}
	x := emptied(api.Room{M: m, B: api.Bump{Space: 1 - space, At: 0, Limit: m.Words}}, 1-space)
	return whole(x, 0, rows, nil)
}

// same: are two flips the same?
func same(f, g api.Flip) bool { return alike(f.X, g.X) && equal(f.Rows, g.Rows) }

// kept looks, behind a call, whether what was handed in is as it was.
func kept(t *testing.T, x api.Room, rows [][]uint64, logs [][]api.Entry) func() {
	t.Helper()
	y, l, k := twice(x), copied(rows), copied(logs)
	return func() {
		t.Helper()
		if !alike(x, y) || !equal(rows, l) || !equal(logs, k) {
			t.Fatalf("what was handed in was %+v, %#x, %+v, and is %+v, %#x, %+v", y, l, k, x, rows, logs)
		}
	}
}

// wantFinish holds Finish against its measure, and what was handed in against what it was.
func wantFinish(t *testing.T, x api.Room, at int, rows [][]uint64, logs [][]api.Entry) (api.Room, []uint64, api.Errno) {
	t.Helper()
	want, l, f := finish(twice(x), at, rows, logs)
	held := kept(t, x, rows, logs)
	got, twins, e := flip.Finish(x, at, rows, logs)
	if !alike(got, want) || !slices.Equal(twins, l) || e != f || !buf.Right(got) {
		t.Fatalf("Finish(%+v, %d, %#x, %+v): got %+v, %#x, %d, want %+v, %#x, %d", x, at, rows, logs, got, twins, e, want, l, f)
	}
	held()
	return got, twins, e
}

// wantTurn holds Turn likewise.
func wantTurn(t *testing.T, x api.Room, rows [][]uint64) (api.Room, [][]uint64, api.Errno) {
	t.Helper()
	want, l, f := turn(twice(x), rows)
	held := kept(t, x, rows, nil)
	got, turned, e := flip.Turn(x, rows)
	if !alike(got, want) || !equal(turned, l) || e != f || !buf.Right(got) {
		t.Fatalf("Turn(%+v, %#x): got %+v, %#x, %d, want %+v, %#x, %d", x, rows, got, turned, e, want, l, f)
	}
	held()
	return got, turned, e
}

// wantWhole holds Whole likewise.
func wantWhole(t *testing.T, x api.Room, at int, rows [][]uint64, logs [][]api.Entry) (api.Flip, api.Errno) {
	t.Helper()
	want, f := whole(twice(x), at, rows, logs)
	held := kept(t, x, rows, logs)
	got, e := flip.Whole(x, at, rows, logs)
	if !same(got, want) || e != f || e == api.OK && !buf.Right(got.X) {
		t.Fatalf("Whole(%+v, %d, %#x, %+v): got %+v, %d, want %+v, %d", x, at, rows, logs, got, e, want, f)
	}
	held()
	return got, e
}

// wantCopy holds Copy likewise.
func wantCopy(t *testing.T, m api.Mem, space int, rows [][]uint64) (api.Flip, api.Errno) {
	t.Helper()
	want, f := taken(m, space, rows)
	held := kept(t, api.Room{M: m}, rows, nil)
	got, e := flip.Copy(m, space, rows)
	if !same(got, want) || e != f || e == api.OK && !buf.Right(got.X) {
		t.Fatalf("Copy(%+v, %d, %#x): got %+v, %d, want %+v, %d", m, space, rows, got, e, want, f)
	}
	held()
	return got, e
}

// wantFlipped holds a flip against the room and the handles ahead of it (those lead to objects that were not over there, or to nothing), as P14.3
// tells it: and it tells how many words the objects have that are reached.
func wantFlipped(t *testing.T, x api.Room, rows [][]uint64, f api.Flip) int {
	t.Helper()
	if f.X.T != (api.Buf{}) || f.X.B.Space != x.B.Space || f.X.B.Limit != x.M.Words || !buf.Right(f.X) {
		t.Fatalf("behind a flip the room is %+v", f.X)
	}
	for at, w := range f.X.M.Sp[1-x.B.Space] {
		if w != 0 {
			t.Fatalf("the old space has %#x at %d", w, at)
		}
	}
	there := map[uint64]bool{0: true}
	for at := 0; at != f.X.B.At; {
		a := address(x.B.Space, at)
		h, e := known(f.X, a)
		if e != api.OK || at+long(h) > f.X.B.At {
			t.Fatalf("the new space can't be gone through at %d: %+v", at, f.X)
		}
		there[a] = h.Tag != 255
		at += long(h)
	}
	for a, object := range there {
		h, _ := known(f.X, a)
		for i := range h.Len {
			if p, pointer, _ := field(f.X, a, i); object && pointer && !there[p] {
				t.Fatalf("the field %d of %#x leads to %#x: %+v", i, a, p, f.X)
			}
		}
	}
	return wantSameGraph(t, x, rows, f, there)
}

// wantSameGraph goes from handles ahead of a flip, and behind it, along the same fields: to the same objects.
func wantSameGraph(t *testing.T, x api.Room, rows [][]uint64, f api.Flip, there map[uint64]bool) int {
	t.Helper()
	became, was := map[uint64]uint64{0: 0}, map[uint64]uint64{0: 0}
	n := 0
	var meet func(a, b uint64)
	meet = func(a, b uint64) {
		c, is := became[a]
		d, too := was[b]
		if is != too || is && (c != b || d != a) || !there[b] {
			t.Fatalf("%#x has become %#x, and is %#x: %+v, %+v", a, c, b, x, f)
		}
		if is {
			return
		}
		became[a], was[b] = b, a
		h, e := known(x, a)
		if k, f := known(f.X, b); e != api.OK || f != api.OK || h != k {
			t.Fatalf("the head of %#x is %+v, that of %#x %+v", a, h, b, k)
		}
		if w := words(f.X, b, 2)[1]; w != 0 {
			t.Fatalf("the object %#x has a twin, %#x", b, w)
		}
		n += long(h)
		for i := range h.Len {
			v, pointer, _ := field(x, a, i)
			w, _, _ := field(f.X, b, i)
			if pointer {
				meet(v, w)
			} else if v != w {
				t.Fatalf("the field %d of %#x is %#x, that of %#x %#x", i, a, v, b, w)
			}
		}
	}
	if len(rows) != len(f.Rows) {
		t.Fatalf("rows %#x have become %#x", rows, f.Rows)
	}
	for i, row := range rows {
		if len(row) != len(f.Rows[i]) {
			t.Fatalf("rows %#x have become %#x", rows, f.Rows)
		}
		for h, a := range row {
			meet(a, f.Rows[i][h])
		}
	}
	return n
}

// P14.2: the example: one object at (0, 3), two handles to it: Copy from 0: both lead to (1, 0).
func TestExample(t *testing.T) {
	m := api.Mem{Words: 16, Sp: [2][]uint64{
		{8, 8, 8, 0x01000002_00000001, 0, 0x1_00000003, 9, 8, 8, 8, 8, 8, 8, 8, 8, 8},
		{7, 7, 7, 7, 7, 7, 7, 7, 7, 7, 7, 7, 7, 7, 7, 7},
	}}
	rows := [][]uint64{{0x1_00000003}, {0, 0x1_00000003}}
	want := api.Flip{
		X: api.Room{
			M: api.Mem{Words: 16, Sp: [2][]uint64{make([]uint64, 16), {0x01000002_00000001, 0, 0x2_00000000, 9, 0, 0, 0, 0, 0, 0, 0, 0, 0, 0, 0, 0}}},
			B: api.Bump{Space: 1, At: 4, Limit: 16},
		},
		Rows: [][]uint64{{0x2_00000000}, {0, 0x2_00000000}},
	}
	if got, e := flip.Copy(m, 0, rows); !same(got, want) || e != 0 {
		t.Errorf("Copy from 0: got %+v, %d", got, e)
	}
	// From 1 there is nothing: the handles lead to what is emptied.
	if got, e := flip.Copy(m, 1, rows); !same(got, api.Flip{}) || e != 10 {
		t.Errorf("Copy from 1: got %+v, %d", got, e)
	}
	// The same, in the way of a flip with a bit done ahead: a twin was made, the field 1 was written then.
	x := api.Room{M: want.X.M, B: want.X.B, T: api.Buf{At: 1, End: 2}}
	x = twice(x)
	copy(x.M.Sp[0], []uint64{8, 8, 8, 0x01000002_00000001, 0x2_00000000, 0x1_00000003, 9})
	copy(x.M.Sp[1], []uint64{0x01000002_00000001, 0, 0x1_00000003, 5})
	logs := [][]api.Entry{{}, {{Obj: 0x1_00000003, Field: 1}}}
	if got, e := flip.Whole(x, 0, rows, logs); !same(got, want) || e != 0 {
		t.Errorf("Whole: got %+v, %d", got, e)
	}
	finished, twins, e := flip.Finish(x, 0, rows, logs)
	ahead := twice(x)
	ahead.M.Sp[1] = want.X.M.Sp[1]
	if !alike(finished, ahead) || !slices.Equal(twins, []uint64{0x2_00000000}) || e != 0 {
		t.Errorf("Finish: got %+v, %#x, %d", finished, twins, e)
	}
	if got, turned, e := flip.Turn(finished, rows); !alike(got, ahead) || !equal(turned, want.Rows) || e != 0 {
		t.Errorf("Turn: got %+v, %#x, %d", got, turned, e)
	}
}

// bad is an address that To refuses, and its error.
type bad struct {
	a uint64
	e api.Errno
}

// mixed is a room of 64 words in which the space goes on at the place 30. Here are objects without twins, of 3, 4 and 7 words, at the places 0, 3
// and 16 (the one at 3 leads to itself, and to the one at 0), and such with twins, at the places 7 (a pair of pointers, which were 0 and are
// to the one at 16 and to itself, but are the twin's not yet), 11 (without fields) and 13 (a scalar). Over there are a twin that leads to the one
// at 11, and to nothing, a filler of 12 words; and, from the place 16 on, the twins of those at 7, 11 and 13, and a filler of 5. And there is
// what is refused.
func mixed(space int) (api.Room, []bad) {
	x := room(64, space, 30)
	here := 1 - space
	put(x, address(here, 0), scalars(1), 0)
	put(x, address(here, 3), pointers(2), 0, address(here, 3), address(here, 0))
	put(x, address(here, 7), pointers(2), address(space, 16), address(here, 16), address(here, 7))
	put(x, address(here, 11), scalars(0), address(space, 20))
	put(x, address(here, 13), scalars(1), address(space, 22), 77)
	put(x, address(here, 16), scalars(5), 0)
	put(x, address(space, 0), pointers(2), 0, address(here, 11), 0)
	put(x, address(space, 4), filler(12))
	put(x, address(space, 16), pointers(2), 0, 0, 0)
	put(x, address(space, 20), scalars(0), 0)
	put(x, address(space, 22), scalars(1), 0, 66)
	put(x, address(space, 25), filler(5))
	return x, []bad{
		{put(x, address(here, 46), pointers(0), address(here, 0)), api.ErrForm}, {put(x, address(here, 48), pointers(0), 3), api.ErrForm},
		{address(here, 50), api.ErrForm}, {address(space, 6), api.ErrForm}, {put(x, address(here, 51), filler(3), 0), api.ErrKind}, {address(space, 4), api.ErrKind},
		{put(x, address(here, 54), scalars(13), 0), api.ErrSpace}, {put(x, address(here, 62), filler(3), 0), api.ErrSpace},
		{address(here, 64), api.ErrSpace}, {address(space, 64), api.ErrSpace}, {7, api.ErrSpace}, {1<<63 + address(here, 0), api.ErrSpace},
	}
}

// begun are the places from which on the space of twins of a mixed room can be gone through.
func begun() []int { return []int{0, 4, 16, 20, 22, 25, 30} }

// P14.1: Finish with rows of handles of all kinds, and no entries, from B's At on: the twins in order, and the room, as the document tells it.
func TestRowsTold(t *testing.T) {
	for space := range 2 {
		x, _ := mixed(space)
		here := 1 - space
		a, b, c := address(here, 0), address(here, 3), address(here, 16)
		d, f, g := address(here, 7), address(here, 11), address(here, 13)
		at := func(place int) uint64 { return address(space, place) }
		for _, k := range []struct {
			rows  [][]uint64
			twins []uint64
			goes  int
			order []uint64
		}{
			{nil, nil, 30, nil}, {[][]uint64{}, nil, 30, nil}, {[][]uint64{nil}, nil, 30, nil}, {[][]uint64{nil, {}, nil}, nil, 30, nil}, {make([][]uint64, 100), nil, 30, nil},
			{[][]uint64{{0}}, nil, 30, nil}, {[][]uint64{{0, 0}, {}, {0}}, nil, 30, nil},
			{[][]uint64{{a}}, []uint64{at(30)}, 33, []uint64{a}}, {[][]uint64{{}, {0, c}, {}}, []uint64{at(30)}, 37, []uint64{c}},
			{[][]uint64{{a, a}}, []uint64{at(30)}, 33, []uint64{a}}, {[][]uint64{{a}, {a}}, []uint64{at(30)}, 33, []uint64{a}}, {[][]uint64{{a, 0, a}, {0, a}}, []uint64{at(30)}, 33, []uint64{a}},
			{[][]uint64{{c, a}, {a, 0, c}}, []uint64{at(30), at(37)}, 40, []uint64{c, a}}, {[][]uint64{{a}, {c, a}}, []uint64{at(30), at(33)}, 40, []uint64{a, c}},
			{[][]uint64{{at(0), at(16)}, {at(0)}}, []uint64{at(0), at(16)}, 30, nil}, {[][]uint64{{at(22)}, {at(20), a}}, []uint64{at(22), at(20), at(30)}, 33, []uint64{a}},
			{[][]uint64{{d, f}, {g}}, []uint64{at(16), at(20), at(22)}, 30, nil}, {[][]uint64{{g, at(22), a, f}, {at(20), f, g}}, []uint64{at(22), at(22), at(30), at(20), at(20)}, 33, []uint64{a}},
			{[][]uint64{slices.Repeat([]uint64{a, 0, g}, 30), {c}}, []uint64{at(30), at(22), at(33)}, 40, []uint64{a, c}},
			// What a twin's pointers lead to gets its twin behind those of all handles.
			{[][]uint64{{b}}, []uint64{at(30)}, 37, []uint64{b, a}}, {[][]uint64{{b}, {c}}, []uint64{at(30), at(34)}, 44, []uint64{b, c, a}}, {[][]uint64{{b}, {a}}, []uint64{at(30), at(34)}, 37, []uint64{b, a}},
			{[][]uint64{{a, b}}, []uint64{at(30), at(33)}, 37, []uint64{a, b}},
		} {
			want := twice(x)
			for _, from := range k.order {
				h, _ := known(x, from)
				want = made(want, from, long(h))
			}
			for i := range want.B.At - 30 {
				// All pointers that were copied are those of b.
				switch w := words(want, at(30), 34)[i]; w {
				case b:
					words(want, at(30), 34)[i] = words(want, b, 2)[1]
				case a:
					words(want, at(30), 34)[i] = words(want, a, 2)[1]
				}
			}
			for _, logs := range [][][]api.Entry{nil, {}, {nil, {}}, make([][]api.Entry, 70)} {
				got, twins, e := wantFinish(t, x, 30, k.rows, logs)
				if !alike(got, want) || !slices.Equal(twins, k.twins) || e != api.OK || got.B.At != k.goes {
					t.Errorf("Finish of %#x: got %+v, %#x, %d, want %#x, %+v", k.rows, got, twins, e, k.twins, want)
				}
			}
		}
	}
}

// P14.1: Finish with logs and no rows: what was written is the twins'; what is written of objects without twins is nobody's.
func TestLogsTold(t *testing.T) {
	for space := range 2 {
		x, _ := mixed(space)
		here := 1 - space
		at := func(place int) uint64 { return address(space, place) }
		scalar, bare := api.Entry{Obj: address(here, 13)}, api.Entry{Obj: address(here, 0)}
		made, own := api.Entry{Obj: address(here, 7)}, api.Entry{Obj: address(here, 7), Field: 1}
		there := api.Entry{Obj: at(0)}
		for _, k := range []struct {
			logs      [][]api.Entry
			v, p, q   uint64
			goes, end int
		}{
			{nil, 66, 0, 0, 30, 30}, {[][]api.Entry{{}, nil}, 66, 0, 0, 30, 30}, {[][]api.Entry{{bare}, {there, bare}}, 66, 0, 0, 30, 30},
			{[][]api.Entry{{scalar}}, 77, 0, 0, 30, 30}, {[][]api.Entry{{}, {scalar, scalar}, {scalar}}, 77, 0, 0, 30, 30}, {[][]api.Entry{{own}}, 66, 0, at(16), 30, 30},
			{[][]api.Entry{{made}}, 66, at(30), 0, 37, 37}, {[][]api.Entry{nil, {bare, own}, {made}, {made, scalar, there}}, 77, at(30), at(16), 37, 37},
		} {
			want := twice(x)
			words(want, at(22), 3)[2] = k.v
			copy(words(want, at(16), 4)[2:], []uint64{k.p, k.q})
			if k.p != 0 {
				copy(words(want, at(30), 7), words(x, address(here, 16), 7))
				words(want, address(here, 16), 2)[1] = at(30)
			}
			want.B.At = k.goes
			for _, rows := range [][][]uint64{nil, {{}, {0}}} {
				got, twins, e := wantFinish(t, x, 30, rows, k.logs)
				if !alike(got, want) || twins != nil && len(twins) != 0 || e != api.OK {
					t.Errorf("Finish of %+v: got %+v, %#x, %d, want %+v", k.logs, got, twins, e, want)
				}
			}
		}
	}
}

// P14.1: first what was written, log by log, then what handles lead to, then what twins lead to: so stand the new twins, one behind the other.
func TestOrder(t *testing.T) {
	for space := range 2 {
		for _, order := range [][]int{{0, 1, 2, 3, 4}, {4, 3, 2, 1, 0}, {2, 0, 4, 1, 3}} {
			x := room(80, space, 10)
			here := 1 - space
			// Five objects without twins, of 2 to 6 words; which of them is led to by what goes by order.
			var l []uint64
			for i := range 5 {
				l = append(l, put(x, address(here, 10*i+20), scalars(i), 0))
			}
			by := func(i int) uint64 { return l[order[i]] }
			put(x, address(space, 0), pointers(1), 0, by(4))
			put(x, address(space, 3), pointers(2), 0, 0, 0)
			put(x, address(space, 7), filler(3))
			put(x, address(here, 0), pointers(2), address(space, 3), by(0), by(1))
			rows := [][]uint64{{}, {0, by(2)}, {by(2), by(3)}}
			logs := [][]api.Entry{nil, {{Obj: address(here, 0)}}, {{Obj: address(here, 0), Field: 1}}}
			want, goes := map[uint64]uint64{}, 10
			for i := range 5 {
				want[by(i)] = address(space, goes)
				goes += order[i] + 2
			}
			got, twins, e := wantFinish(t, x, 0, rows, logs)
			if e != api.OK || got.B.At != goes || !slices.Equal(twins, []uint64{want[by(2)], want[by(3)]}) {
				t.Errorf("Finish, in the order %v: got %+v, %#x, %d", order, got, twins, e)
			}
			for a, b := range want {
				if w := words(got, a, 2)[1]; w != b {
					t.Errorf("Finish, in the order %v: the twin of %#x is %#x, want %#x", order, a, w, b)
				}
			}
			if f, e := wantWhole(t, x, 0, rows, logs); e != api.OK || !equal(f.Rows, [][]uint64{{}, {0, want[by(2)]}, {want[by(2)], want[by(3)]}}) {
				t.Errorf("Whole, in the order %v: got %+v, %d", order, f, e)
			}
		}
	}
}

// P14.1: from where on twins are gone through: what is ahead of it isn't put right; a place where nothing stands is refused, and so is one
// below 0, or above B's At: as that is behind all that was made, not as it was.
func TestAt(t *testing.T) {
	for space := range 2 {
		here := 1 - space
		x, _ := mixed(space)
		// Of each of three twins over there a pointer is to be put right.
		put(x, address(space, 0), pointers(2), 0, address(here, 11), address(here, 0))
		put(x, address(space, 16), pointers(2), 0, address(here, 0), address(here, 13))
		for _, at := range begun() {
			got, twins, e := wantFinish(t, x, at, nil, nil)
			p, q := words(got, address(space, 0), 4), words(got, address(space, 16), 4)
			if len(twins) != 0 || e != api.OK || (p[2] == address(space, 20)) != (at == 0) || (q[3] == address(space, 22)) != (at <= 16) || (got.B.At == 33) != (at <= 16) {
				t.Errorf("Finish from %d on: got %+v, %#x, %d", at, got, twins, e)
			}
		}
		for _, at := range []int{math.MinInt, -1 << 32, -4096, -1, 31, 32, 34, 38, 64, 65, 4096, 1 << 32, 1<<62 + 30, math.MaxInt} {
			if got, twins, e := wantFinish(t, x, at, nil, nil); !alike(got, x) || len(twins) != 0 || e != api.ErrArg {
				t.Errorf("Finish from %d on: got %+v, %#x, %d", at, got, twins, e)
			}
			if f, e := wantWhole(t, x, at, nil, nil); !same(f, api.Flip{}) || e != api.ErrArg {
				t.Errorf("Whole from %d on: got %+v, %d", at, f, e)
			}
		}
		for at, f := range map[int]api.Errno{1: api.ErrForm, 2: api.ErrForm, 5: api.ErrForm, 15: api.ErrForm, 17: api.ErrForm, 26: api.ErrForm} {
			if got, twins, e := wantFinish(t, x, at, [][]uint64{{address(here, 16)}}, nil); !alike(got, x) || len(twins) != 0 || e != f {
				t.Errorf("Finish from %d on: got %+v, %#x, %d, want %d", at, got, twins, e, f)
			}
		}
		// A twin that was made for a handle, or for an entry, moves B's At on.
		rows, logs := [][]uint64{{address(here, 16)}}, [][]api.Entry{{{Obj: address(here, 7)}}}
		for at, f := range map[int]api.Errno{30: api.OK, 31: api.ErrForm, 36: api.ErrForm, 37: api.OK, 38: api.ErrArg} {
			if got, _, e := wantFinish(t, x, at, rows, nil); e != f || alike(got, x) != (f != api.OK) {
				t.Errorf("Finish of %#x, from %d on: got %+v, %d, want %d", rows, at, got, e, f)
			}
			if got, _, e := wantFinish(t, x, at, nil, logs); e != f || alike(got, x) != (f != api.OK) {
				t.Errorf("Finish of %+v, from %d on: got %+v, %d, want %d", logs, at, got, e, f)
			}
		}
	}
}

// good are entries, handles and a place of a mixed room that are done one after the other.
func good(space int) ([]api.Entry, []uint64, int) {
	here := 1 - space
	l := []api.Entry{{Obj: address(here, 7)}, {Obj: address(here, 0)}, {Obj: address(here, 7), Field: 1}, {Obj: address(here, 13)}}
	return l, []uint64{address(here, 3), 0, address(here, 13), address(here, 16), address(space, 20), address(here, 3)}, 0
}

// wantRefused: Finish and Whole are refused with an error, and nothing is as it wasn't.
func wantRefused(t *testing.T, x api.Room, at int, rows [][]uint64, logs [][]api.Entry, want api.Errno) {
	t.Helper()
	if got, twins, e := wantFinish(t, x, at, rows, logs); !alike(got, x) || len(twins) != 0 || e != want {
		t.Errorf("Finish of %d, %#x, %+v: got %+v, %#x, %d, want %d", at, rows, logs, got, twins, e, want)
	}
	if f, e := wantWhole(t, x, at, rows, logs); !alike(f.X, api.Room{}) || len(f.Rows) != 0 || e != want {
		t.Errorf("Whole of %d, %#x, %+v: got %+v, %d, want %d", at, rows, logs, f, e, want)
	}
}

// P14.1, P14.2: an entry that is refused, as the first one, between others, as the last one, in the first log and in later ones: its error, whatever the
// handles and the place are, and all is as it was.
func TestEntryRefused(t *testing.T) {
	for space := range 2 {
		x, l := mixed(space)
		here := 1 - space
		entries, row, at := good(space)
		wrong := map[api.Entry]api.Errno{
			{Obj: 0}: api.ErrSpace, {Obj: address(here, 0), Field: 1}: api.ErrField, {Obj: address(here, 0), Field: -1}: api.ErrField, {Obj: address(here, 13), Field: math.MaxInt}: api.ErrField,
		}
		for _, k := range l[2:] {
			wrong[api.Entry{Obj: k.a}] = k.e
		}
		// A pointer that To refuses, of an object with a twin; behind the other two fields of it.
		for _, k := range l {
			y := twice(x)
			put(y, address(here, 30), pointers(3), address(space, 38), 0, 0, k.a)
			put(y, address(space, 38), pointers(3), 0, 0, 0, 0)
			y.B.At = 43
			put(y, address(space, 30), filler(8))
			wantRefused(t, y, at, [][]uint64{row}, [][]api.Entry{{{Obj: address(here, 30)}, {Obj: address(here, 30), Field: 2}, {Obj: address(here, 30), Field: 1}}}, k.e)
		}
		for c, e := range wrong {
			for place := range len(entries) + 1 {
				m := slices.Insert(slices.Clone(entries), place, c)
				for _, logs := range [][][]api.Entry{{m}, {m[:place], m[place:]}, {nil, m[:2], {}, m[2:]}} {
					for _, rows := range [][][]uint64{nil, {row}, {row, {7, address(here, 51)}}} {
						for _, from := range []int{at, -1, 1} {
							wantRefused(t, x, from, rows, logs, e)
						}
					}
				}
			}
		}
	}
}

// P14.1, P14.2: a handle that is refused, as the first one, between others, as the last one, in the first row and in later ones: its error, whatever the
// place is, and all is as it was, also what was written; Turn likewise, with the rows as they were.
func TestHandleRefused(t *testing.T) {
	for space := range 2 {
		x, l := mixed(space)
		entries, row, at := good(space)
		for _, k := range l {
			for place := range len(row) + 1 {
				m := slices.Insert(slices.Clone(row), place, k.a)
				for _, rows := range [][][]uint64{{m}, {m[:place], m[place:]}, {nil, m[:3], {}, m[3:], {k.a}}} {
					for _, logs := range [][][]api.Entry{nil, {entries}, {nil, entries[:1], entries[1:]}} {
						for _, from := range []int{at, -1, 1} {
							wantRefused(t, x, from, rows, logs, k.e)
						}
					}
					if got, turned, e := wantTurn(t, x, rows); !alike(got, x) || !equal(turned, rows) || e != k.e {
						t.Errorf("Turn of %#x: got %+v, %#x, %d, want %d", rows, got, turned, e, k.e)
					}
				}
			}
			// Another error behind it doesn't count.
			for _, d := range l {
				wantRefused(t, x, 0, [][]uint64{{k.a, d.a}}, nil, k.e)
				if _, _, e := wantTurn(t, x, [][]uint64{{k.a}, {d.a}}); e != k.e {
					t.Errorf("Turn of %#x, %#x: got %d, want %d", k.a, d.a, e, k.e)
				}
			}
		}
	}
}

// P14.1, P14.2: a twin's pointer that is refused, in the first twin that is gone through, in a later one, in one that was made just for it, the
// first of its fields and the last one: its error, and all is as it was, also what was written and made.
func TestPointerRefused(t *testing.T) {
	for space := range 2 {
		from, l := mixed(space)
		here := 1 - space
		entries, row, at := good(space)
		for _, k := range l {
			for i := range 2 {
				// Fields over there, and one of an object whose twin is made for a handle, and one of what another one leads to.
				for _, a := range []uint64{address(space, 0), address(space, 16), address(here, 3), address(here, 33)} {
					x := twice(from)
					put(x, address(here, 33), pointers(2), 0, 0, address(here, 0))
					words(x, address(here, 3), 4)[3] = address(here, 33)
					words(x, a, 4)[2+i] = k.a
					if a == address(here, 3) && i == 1 {
						words(x, address(here, 3), 4)[2] = address(here, 16)
					}
					for _, rows := range [][][]uint64{{row}, {{0}, row[:1], nil, row[1:]}} {
						for _, logs := range [][][]api.Entry{nil, {nil, entries[1:2], entries[3:]}} {
							wantRefused(t, x, at, rows, logs, k.e)
							if a == address(space, 0) {
								// Behind that twin nothing is refused.
								if _, _, e := wantFinish(t, x, 4, rows, logs); e != api.OK {
									t.Errorf("Finish, behind %#x: got %d", a, e)
								}
							}
						}
					}
					// Turn doesn't go through twins.
					if _, _, e := wantTurn(t, x, [][]uint64{row}); e != api.OK {
						t.Errorf("Turn, %#x leads to %#x: got %d", a, k.a, e)
					}
				}
			}
		}
	}
}

// P14.1, P14.2: no room left: for the pointer of an entry, for a handle, for the pointer of a twin; each number of words that are left.
func TestFull(t *testing.T) {
	for space := range 2 {
		from, _ := mixed(space)
		here := 1 - space
		_, row, _ := good(space)
		entries := []api.Entry{{Obj: address(here, 7)}}
		for goes := 30; goes <= 64; goes++ {
			x := twice(from)
			x.B.At = goes
			left := 64 - goes
			want := func(n int) api.Errno {
				if left < n {
					return api.ErrFull
				}
				return api.OK
			}
			for _, k := range []struct {
				rows [][]uint64
				logs [][]api.Entry
				n    int
			}{
				{nil, nil, 0}, {nil, [][]api.Entry{entries}, 7}, {[][]uint64{{address(here, 16)}}, nil, 7}, {[][]uint64{{address(here, 0)}, {address(here, 16)}}, nil, 10}, {[][]uint64{{address(here, 16)}}, [][]api.Entry{entries}, 7},
				{[][]uint64{{address(here, 3)}}, nil, 7}, {[][]uint64{{address(here, 3)}}, [][]api.Entry{entries}, 14}, {[][]uint64{row}, nil, 14}, {[][]uint64{{address(here, 7), address(here, 11)}, {address(space, 0)}}, nil, 0},
			} {
				got, _, e := wantFinish(t, x, goes, k.rows, k.logs)
				if e != want(k.n) || e == api.OK && got.B.At != goes+k.n {
					t.Errorf("Finish of %#x, %+v, %d words left: got %d", k.rows, k.logs, left, e)
				}
				if e != api.OK {
					wantRefused(t, x, goes, k.rows, k.logs, api.ErrFull)
				} else if f, e := wantWhole(t, x, goes, k.rows, k.logs); e != api.OK || f.X.B.At != goes+k.n {
					t.Errorf("Whole of %#x, %+v, %d words left: got %+v, %d", k.rows, k.logs, left, f, e)
				}
			}
			for n, rows := range map[int][][]uint64{0: {{0, address(here, 11)}}, 3: {{address(here, 0)}}, 4: {{address(here, 3)}}, 10: {{address(here, 0)}, {address(here, 16)}}, 11: {row}} {
				got, turned, e := wantTurn(t, x, rows)
				if e != want(n) || e != api.OK && (!alike(got, x) || !equal(turned, rows)) {
					t.Errorf("Turn of %#x, %d words left: got %+v, %#x, %d", rows, left, got, turned, e)
				}
			}
		}
	}
}

// P14.1: Turn without a Finish: it makes the twins itself, and puts nothing right; each handle leads to its twin; behind a Finish it makes none; it
// is the same once more, of the same rows and of those that are turned.
func TestTurn(t *testing.T) {
	for space := range 2 {
		x, _ := mixed(space)
		here := 1 - space
		a, b, c, d, f := address(here, 0), address(here, 3), address(here, 16), address(here, 7), address(here, 11)
		at := func(place int) uint64 { return address(space, place) }
		for _, k := range []struct {
			rows, turned [][]uint64
			order        []uint64
		}{
			{nil, nil, nil}, {[][]uint64{{}, nil, {0, 0}}, [][]uint64{nil, nil, {0, 0}}, nil},
			{[][]uint64{{b}}, [][]uint64{{at(30)}}, []uint64{b}}, {[][]uint64{{c, 0, a}, {}, {a, c, a}}, [][]uint64{{at(30), 0, at(37)}, {}, {at(37), at(30), at(37)}}, []uint64{c, a}},
			{[][]uint64{{d, at(16)}, {f, at(22), at(0)}}, [][]uint64{{at(16), at(16)}, {at(20), at(22), at(0)}}, nil},
			{[][]uint64{{b, 0, d}, {f}, {b, a, 0}}, [][]uint64{{at(30), 0, at(16)}, {at(20)}, {at(30), at(34), 0}}, []uint64{b, a}},
		} {
			want := twice(x)
			for _, from := range k.order {
				h, _ := known(x, from)
				want = made(want, from, long(h))
			}
			got, turned, e := wantTurn(t, x, k.rows)
			if !alike(got, want) || !equal(turned, k.turned) || e != api.OK {
				t.Errorf("Turn of %#x: got %+v, %#x, %d, want %+v, %#x", k.rows, got, turned, e, want, k.turned)
			}
			if again, twice, e := wantTurn(t, got, k.rows); !alike(again, got) || !equal(twice, turned) || e != api.OK {
				t.Errorf("Turn of %#x, once more: got %+v, %#x, %d", k.rows, again, twice, e)
			}
			if again, twice, e := wantTurn(t, got, turned); !alike(again, got) || !equal(twice, turned) || e != api.OK {
				t.Errorf("Turn of %#x: got %+v, %#x, %d", turned, again, twice, e)
			}
			for _, from := range begun() {
				finished, twins, e := wantFinish(t, x, from, k.rows, nil)
				if e != api.OK {
					t.Fatalf("Finish of %#x: got %d", k.rows, e)
				}
				got, turned, e := wantTurn(t, finished, k.rows)
				if !alike(got, finished) || e != api.OK || !equal(turned, k.turned) || !slices.Equal(once(turned), once([][]uint64{twins})) {
					t.Errorf("Turn of %#x, behind Finish: got %+v, %#x, %d", k.rows, got, turned, e)
				}
			}
		}
	}
}

// P14.2: Whole is Finish, then Turn; then the other space is empty, and T is: B is where it was, and so are all words of its space, above it, too.
func TestWhole(t *testing.T) {
	for space := range 2 {
		x, _ := mixed(space)
		entries, row, _ := good(space)
		for _, at := range begun() {
			for _, rows := range [][][]uint64{nil, {nil, {}}, {{0}}, {row}, {row[3:], nil, row[:4], {0, 0}}} {
				for _, logs := range [][][]api.Entry{nil, {nil}, {entries}, {entries[3:], {}, entries[:1], entries}} {
					for _, piece := range []api.Buf{{}, {At: 0, End: 30}, {At: 30, End: 30}, {At: 3, End: 9}} {
						x.T = piece
						finished, twins, e := wantFinish(t, x, at, rows, logs)
						turned, l, f := wantTurn(t, finished, rows)
						got, g := wantWhole(t, x, at, rows, logs)
						if e != api.OK || f != api.OK || g != api.OK {
							t.Fatalf("%d, %#x, %+v: got %d, %d, %d", at, rows, logs, e, f, g)
						}
						if finished.T != piece || turned.T != piece || got.X.T != (api.Buf{}) || got.X.B != turned.B || !equal(got.Rows, l) || !slices.Equal(once(l), once([][]uint64{twins})) {
							t.Errorf("Whole from %d on, of %#x, %+v: got %+v", at, rows, logs, got)
						}
						if !slices.Equal(got.X.M.Sp[space], turned.M.Sp[space]) || !slices.Equal(got.X.M.Sp[1-space], make([]uint64, 64)) || got.X.M.Words != 64 {
							t.Errorf("Whole from %d on, of %#x, %+v: got %+v", at, rows, logs, got)
						}
						if !slices.Equal(got.X.M.Sp[space][got.X.B.At:], x.M.Sp[space][got.X.B.At:]) {
							t.Errorf("Whole from %d on, of %#x, %+v: words above B's At were changed: %+v", at, rows, logs, got)
						}
					}
				}
			}
		}
	}
}

// P14.2: Whole, where Finish isn't refused, but Turn is: a handle leads to what is over there behind B's At, till a twin is made there.
func TestTurnRefused(t *testing.T) {
	for space := range 2 {
		here := 1 - space
		for w, want := range map[uint64]api.Errno{
			0: api.ErrForm, 5: api.ErrForm, first(filler(1)): api.ErrKind, first(filler(40)): api.ErrSpace, first(scalars(16)): api.ErrSpace, first(scalars(0)): api.OK, first(pointers(1)): api.OK,
		} {
			for _, place := range []int{2, 3, 6} {
				from, _ := mixed(space)
				from.B.At = 50
				x := twice(from)
				put(x, address(space, 30), filler(20))
				words(x, address(here, 16), 7)[place] = w
				there := put(x, address(space, 50+place), scalars(0), 0)
				// The object is the first handle; or it is what a pointer leads to.
				for _, rows := range [][][]uint64{{{there, address(here, 16)}}, {{0, there}, {there, address(space, 16)}}} {
					for _, at := range []int{0, 16} {
						y := twice(x)
						words(y, address(space, 16), 3)[2] = address(here, 16)
						held := kept(t, y, rows, nil)
						finished, twins, e := wantFinish(t, y, at, rows, nil)
						if e != api.OK || twins[0] != there || finished.B.At != 57 {
							t.Fatalf("Finish of %#x: got %+v, %#x, %d", rows, finished, twins, e)
						}
						room, turned, e := wantTurn(t, finished, rows)
						if !alike(room, finished) || e != want || want != api.OK && !equal(turned, rows) {
							t.Errorf("Turn of %#x: got %+v, %#x, %d, want %d", rows, room, turned, e, want)
						}
						f, e := wantWhole(t, y, at, rows, nil)
						if e != want || want != api.OK && !same(f, api.Flip{}) || want == api.OK && f.Rows[0][0] != turned[0][0] {
							t.Errorf("Whole of %#x: got %+v, %d, want %d", rows, f, e, want)
						}
						held()
					}
				}
				// The other way round it is Finish that is refused.
				if want != api.OK {
					wantRefused(t, x, 50, [][]uint64{{address(here, 16), there}}, nil, want)
				}
			}
		}
	}
}

// P14.1, P14.2: a mixed room, all rows of two addresses of it, each with an entry and a place.
func TestMeasured(t *testing.T) {
	for space := range 2 {
		from, l := mixed(space)
		here := 1 - space
		handles := []uint64{0, address(here, 0), address(here, 3), address(here, 7), address(here, 11), address(here, 13), address(here, 16), address(space, 0), address(space, 16), address(space, 22)}
		for _, k := range l {
			handles = append(handles, k.a)
		}
		entries, _, _ := good(space)
		entries = append(entries, api.Entry{Obj: address(here, 46)}, api.Entry{Obj: address(space, 0)}, api.Entry{Obj: address(here, 3), Field: 1})
		for _, goes := range []int{30, 49, 52, 56, 57, 60, 61, 64} {
			x := twice(from)
			x.B.At = goes
			if goes > 30 {
				put(x, address(space, 30), filler(goes-30))
			}
			for i, a := range handles {
				for j, b := range handles {
					e := entries[(i+2*j+goes)%len(entries)]
					at := append(begun(), goes)[(i+3*j+goes)%8]
					for _, rows := range [][][]uint64{{{a, b}}, {{a}, {b, a}}} {
						wantFinish(t, x, at, rows, [][]api.Entry{{e}})
						wantTurn(t, x, rows)
						wantWhole(t, x, at, rows, [][]api.Entry{{}, {e}, nil})
					}
				}
			}
		}
	}
}

// P14.2: Copy of memory that isn't right, and of spaces that there aren't: ErrArg, whatever the handles are.
func TestCopyArguments(t *testing.T) {
	x, _ := mixed(1)
	handles := [][][]uint64{nil, {{}}, {{0}}, {{address(0, 0)}, {address(0, 3)}}, {{7}}, {{address(0, 51)}}}
	for _, rows := range handles {
		for _, space := range []int{math.MinInt, -1 << 32, -2, -1, 2, 3, 1 << 32, 1<<32 + 1, math.MaxInt} {
			if f, e := wantCopy(t, x.M, space, rows); !same(f, api.Flip{}) || e != api.ErrArg {
				t.Errorf("Copy of the space %d, %#x: got %+v, %d", space, rows, f, e)
			}
		}
		for space := range 2 {
			for _, m := range []api.Mem{
				{}, {Words: 64}, {Sp: x.M.Sp}, {Words: 63, Sp: x.M.Sp}, {Words: 65, Sp: x.M.Sp}, {Words: -64, Sp: x.M.Sp}, {Words: math.MaxInt, Sp: x.M.Sp},
				{Words: 64, Sp: [2][]uint64{x.M.Sp[0], nil}}, {Words: 64, Sp: [2][]uint64{x.M.Sp[0][:63], x.M.Sp[1]}}, {Words: 64, Sp: [2][]uint64{x.M.Sp[0], append(slices.Clone(x.M.Sp[1]), 0)}},
				marked(15), marked(4097), marked(0), marked(1),
			} {
				if f, e := wantCopy(t, m, space, rows); !same(f, api.Flip{}) || e != api.ErrArg {
					t.Errorf("Copy of %+v, %#x: got %+v, %d", m, rows, f, e)
				}
			}
		}
	}
}

// P14.2, P14.3: Copy of nothing: both spaces are empty, whatever was in them, also objects that no handle reaches; the handles of nothing are so still.
func TestCopyNothing(t *testing.T) {
	for space := range 2 {
		for _, n := range []int{16, 17, 64, 4096} {
			for _, rows := range [][][]uint64{nil, {}, {nil}, {{}, nil, {}}, {{0}}, {{0, 0, 0}, {}, {0}}} {
				x := room(n, 1-space, 0)
				put(x, address(space, 0), pointers(1), 0, address(space, 0))
				f, e := wantCopy(t, x.M, space, rows)
				empty := api.Room{M: api.Mem{Words: n, Sp: [2][]uint64{make([]uint64, n), make([]uint64, n)}}, B: api.Bump{Space: 1 - space, Limit: n}}
				if !alike(f.X, empty) || !equal(f.Rows, rows) || e != api.OK {
					t.Errorf("Copy of %d words, %#x: got %+v, %d", n, rows, f, e)
				}
				wantFlipped(t, x, rows, f)
			}
		}
	}
}

// P14.2, P14.3: Copy of one object of each number of fields, wherever it stands; its words are as they were, at the beginning of the new space.
func TestCopyOne(t *testing.T) {
	for space := range 2 {
		for n := range 17 {
			for _, h := range []api.Head{scalars(n), {Tag: 200, Len: n}} {
				for _, at := range []int{0, 1, 5, 40 - n - 2} {
					x := room(40, 1-space, 0)
					a := put(x, address(space, at), h, 0)
					for _, rows := range [][][]uint64{{{a}}, {{a, a}}, {{}, {0, a}, {a, 0}}} {
						f, e := wantCopy(t, x.M, space, rows)
						b := address(1-space, 0)
						if e != api.OK || f.X.B.At != n+2 || !slices.Equal(words(f.X, b, n+2), words(x, a, n+2)) || !slices.Equal(f.X.M.Sp[1-space][n+2:], make([]uint64, 38-n)) {
							t.Errorf("Copy of %+v at %d: got %+v, %d", h, at, f, e)
						}
						if wantFlipped(t, x, rows, f) != n+2 || !slices.Equal(once(f.Rows), []uint64{b}) {
							t.Errorf("Copy of %+v at %d: got %+v", h, at, f)
						}
					}
				}
			}
		}
	}
}

// P14.2, P14.3: objects that lead to each other in a ring, of each length, and others that no handle reaches, and lead into it; handles to one, to some, to all
// of the ring: the ring is what is left, and which handles were the same are the same.
func TestCopyRing(t *testing.T) {
	for space := range 2 {
		for n := 1; n <= 12; n++ {
			x := room(100, 1-space, 0)
			var l []uint64
			for i := range n {
				// A ring of objects of one pointer and one scalar, and an object without a handle behind each.
				a, b := address(space, 8*i), address(space, 8*((i+1)%n))
				l = append(l, put(x, a, api.Head{Tag: 1 + i, Len: 2, Map: 1}, 0, b, uint64(50+i)))
				put(x, address(space, 8*i+4), pointers(2), 0, a, address(space, 8*((i+2)%n)+4))
			}
			for from := range n {
				for _, rows := range [][][]uint64{{{l[from]}}, {{l[from], l[0]}, {0, l[n-1]}}, {l, {}, l[from:], l[:from]}} {
					f, e := wantCopy(t, x.M, space, rows)
					if e != api.OK || wantFlipped(t, x, rows, f) != 4*n || f.X.B.At != 4*n || f.Rows[0][0] != address(1-space, 0) {
						t.Errorf("Copy of a ring of %d: got %+v, %d", n, f, e)
					}
					// Back again it is as it was at first, but for where objects stand.
					g, e := wantCopy(t, f.X.M, 1-space, f.Rows)
					if e != api.OK || wantFlipped(t, api.Room{M: f.X.M, B: g.X.B}, f.Rows, g) != 4*n {
						t.Errorf("Copy of a ring of %d, back again: got %+v, %d", n, g, e)
					}
				}
			}
		}
	}
}

// P14.2: words in the other space are gone ahead of all: what handles lead to there isn't, nor what pointers do; but what has a twin there keeps that
// address, though nothing stands there.
func TestCopyOtherSpace(t *testing.T) {
	for space := range 2 {
		x := room(40, 1-space, 0)
		a, b := put(x, address(space, 0), pointers(2), 0, 0, 0), put(x, address(space, 4), scalars(2), 0, 5, 6)
		c := put(x, address(1-space, 20), scalars(0), 0)
		for _, rows := range [][][]uint64{{{c}}, {{a, b}, {0, c}}, {{c, a}}, {{address(1-space, 0)}}, {{a, address(1-space, 39)}}} {
			if f, e := wantCopy(t, x.M, space, rows); !same(f, api.Flip{}) || e != api.ErrForm {
				t.Errorf("Copy of %#x: got %+v, %d", rows, f, e)
			}
		}
		y := twice(x)
		words(y, a, 4)[3] = c
		if f, e := wantCopy(t, y.M, space, [][]uint64{{b, a}}); !same(f, api.Flip{}) || e != api.ErrForm {
			t.Errorf("Copy of a pointer to %#x: got %+v, %d", c, f, e)
		}
		if f, e := wantCopy(t, y.M, space, [][]uint64{{b}}); e != api.OK || wantFlipped(t, y, [][]uint64{{b}}, f) != 4 {
			t.Errorf("Copy of what isn't reached: got %+v, %d", f, e)
		}
		words(y, a, 4)[3] = b
		words(y, b, 2)[1] = c
		f, e := wantCopy(t, y.M, space, [][]uint64{{a, b}})
		if e != api.OK || f.X.B.At != 4 || !slices.Equal(words(f.X, address(1-space, 0), 4), []uint64{first(pointers(2)), 0, 0, c}) || f.Rows[0][1] != c {
			t.Errorf("Copy of what has a twin: got %+v, %d", f, e)
		}
		words(y, b, 2)[1] = a
		if f, e := wantCopy(t, y.M, space, [][]uint64{{a, b}}); !same(f, api.Flip{}) || e != api.ErrForm {
			t.Errorf("Copy of what has a twin here: got %+v, %d", f, e)
		}
	}
}

// P14.2: Copy of handles, and of pointers, that lead nowhere, at each place of a row: their error, and nothing.
func TestCopyNowhere(t *testing.T) {
	for space := range 2 {
		x, l := mixed(1 - space)
		good := []uint64{address(space, 0), 0, address(space, 3), address(space, 16), address(space, 3)}
		if f, e := wantCopy(t, x.M, space, [][]uint64{good}); e != api.OK || wantFlipped(t, x, [][]uint64{good}, f) != 14 {
			t.Errorf("Copy of %#x: got %+v, %d", good, f, e)
		}
		for _, k := range l {
			if e := k.e; e == api.ErrKind && over(x, k.a) {
				// The filler over there is gone ahead of all.
				k.e = api.ErrForm
			}
			for place := range len(good) + 1 {
				row := slices.Insert(slices.Clone(good), place, k.a)
				for _, rows := range [][][]uint64{{row}, {row[:2], nil, row[2:]}} {
					if f, e := wantCopy(t, x.M, space, rows); !same(f, api.Flip{}) || e != k.e {
						t.Errorf("Copy of %#x: got %+v, %d, want %d", rows, f, e, k.e)
					}
				}
			}
			for i := range 2 {
				y := twice(x)
				words(y, address(space, 3), 4)[2+i] = k.a
				if f, e := wantCopy(t, y.M, space, [][]uint64{good}); !same(f, api.Flip{}) || e != k.e {
					t.Errorf("Copy of a pointer %#x: got %+v, %d, want %d", k.a, f, e, k.e)
				}
			}
		}
	}
}

// P14.2: objects amid the words of others may be more than a space has room for.
func TestCopyFull(t *testing.T) {
	for space := range 2 {
		for n := 1; n <= 8; n++ {
			x := room(16, 1-space, 0)
			var row []uint64
			for i := range n {
				row = append(row, put(x, address(space, 2*i), scalars(0), 0))
			}
			f, e := wantCopy(t, x.M, space, [][]uint64{row})
			if e != api.OK || wantFlipped(t, x, [][]uint64{row}, f) != 2*n {
				t.Errorf("Copy of %d objects: got %+v, %d", n, f, e)
			}
			if n < 2 {
				continue
			}
			// The first one has all others' words for its fields.
			put(x, address(space, 0), scalars(14))
			f, e = wantCopy(t, x.M, space, [][]uint64{row})
			if !same(f, api.Flip{}) || e != api.ErrFull {
				t.Errorf("Copy of %d objects, one of which has the others' words: got %+v, %d", n, f, e)
			}
			if f, e := wantCopy(t, x.M, space, [][]uint64{row[:1]}); e != api.OK || f.X.B.At != 16 {
				t.Errorf("Copy of an object of 16 words: got %+v, %d", f, e)
			}
		}
	}
}

// number is the next of a row of numbers all over, the same ones each time.
func number(seed *uint64, n int) int {
	*seed = *seed*6364136223846793005 + 1442695040888963407
	return int(*seed >> 33 % uint64(n))
}

// filled is a room whose other space is full of objects that lead to each other, and to nothing, fillers between them: and their addresses. The space
// of twins begins with a filler up to where it goes on.
func filled(words, space, at int, seed *uint64) (api.Room, []uint64) {
	x := room(words, space, at)
	if at > 0 {
		put(x, address(space, 0), filler(at))
	}
	var l []uint64
	for to := 0; words-to >= 2; {
		n := min(number(seed, 7), words-to-2)
		if a := address(1-space, to); to > 0 && number(seed, 5) == 0 {
			put(x, a, filler(n+2))
		} else {
			l = append(l, put(x, a, api.Head{Tag: 1 + number(seed, 200), Len: n, Map: uint64(number(seed, 1<<n))}, 0))
		}
		to += n + 2
	}
	for _, a := range l {
		h, _ := known(x, a)
		for i := range h.Len {
			written(x, l, a, i, seed)
		}
	}
	return x, l
}

// written sets a field in a room itself: a pointer to nothing, or to one of some objects, a scalar to some number.
func written(x api.Room, l []uint64, a uint64, i int, seed *uint64) {
	_, pointer, _ := field(x, a, i)
	v := uint64(number(seed, 1<<30))
	if pointer {
		v = 0
		if p := number(seed, 2*len(l)); p < len(l) {
			v = l[p]
		}
	}
	words(x, a, i+3)[2+i] = v
}

// held are rows of handles to some objects, and to nothing.
func held(l []uint64, seed *uint64) [][]uint64 {
	rows := make([][]uint64, number(seed, 5))
	for i := range rows {
		for range number(seed, 5) {
			rows[i] = append(rows[i], append(slices.Clone(l), 0, 0)[number(seed, len(l)+2)])
		}
	}
	return rows
}

// P14.2, P14.3: whole spaces of objects that lead to each other, copied there and back: no more words than are reached.
func TestCopyWholeSpace(t *testing.T) {
	great := 0
	for seed := range uint64(400) {
		step := seed
		n := []int{16, 17, 40, 100, 300}[seed%5]
		x, l := filled(n, int(seed/5%2), 0, &step)
		rows := held(l, &step)
		for range 3 {
			f, e := wantCopy(t, x.M, 1-x.B.Space, rows)
			if e != api.OK {
				t.Fatalf("%d: Copy: got %d", seed, e)
			}
			reached := wantFlipped(t, x, rows, f)
			if f.X.B.At != reached {
				t.Fatalf("%d: Copy: %d words of %d that are reached", seed, f.X.B.At, reached)
			}
			if reached > n/2 {
				great++
			}
			x, rows = f.X, f.Rows
			x.B = api.Bump{Space: 1 - x.B.Space, Limit: n}
		}
	}
	if great < 100 {
		t.Errorf("so many flips of many words: %d", great)
	}
}

// behind is a room in which some of the objects have twins, gone through up to a place; then fields were written, and logged, in logs of some threads.
func behind(x api.Room, l []uint64, seed *uint64) (api.Room, int, [][]api.Entry) {
	at := 0
	for range number(seed, 5) {
		if then, _, e := twin.To(x, l[number(seed, len(l))]); e == api.OK {
			x = then
		}
	}
	for range number(seed, 9) {
		if then, b, e := scan.One(x, at); e == api.OK {
			x, at = then, b
		}
	}
	x = twice(x)
	logs := make([][]api.Entry, number(seed, 5))
	for range number(seed, 30) {
		a := l[number(seed, len(l))]
		h, _ := known(x, a)
		if h.Len == 0 || len(logs) == 0 {
			continue
		}
		th, i := number(seed, len(logs)), number(seed, h.Len)
		written(x, l, a, i, seed)
		logs[th] = append(logs[th], api.Entry{Obj: a, Field: i})
	}
	return x, at, logs
}

// P14.1 to P14.3: whole spaces of objects that lead to each other: some get twins, fields are written meanwhile, then all is flipped: what was reached is so
// still, as it was behind the last writing.
func TestWholeSpace(t *testing.T) {
	full, ended, wrote := 0, 0, 0
	for seed := range uint64(600) {
		step := seed
		n := []int{16, 17, 40, 100, 300}[seed%5]
		x, l := filled(n, int(seed/5%2), []int{0, 1, n / 6, 0, n / 2}[seed/10%5], &step)
		x, at, logs := behind(x, l, &step)
		rows := held(l, &step)
		f, e := wantWhole(t, x, at, rows, logs)
		if e != api.OK {
			if full++; e != api.ErrFull {
				t.Fatalf("%d: Whole: got error %d", seed, e)
			}
			continue
		}
		ended++
		wrote += len(slices.Concat(logs...))
		wantFlipped(t, x, rows, f)
		// What is copied once more is what is reached, and nothing else.
		g, e := wantCopy(t, f.X.M, f.X.B.Space, f.Rows)
		if e != api.OK {
			t.Fatalf("%d: Copy: got error %d", seed, e)
		}
		if reached := wantFlipped(t, api.Room{M: f.X.M, B: g.X.B}, f.Rows, g); reached != g.X.B.At {
			t.Fatalf("%d: Copy: %d words of %d that are reached", seed, g.X.B.At, reached)
		}
	}
	if full < 20 || ended < 300 || wrote < 2000 {
		t.Errorf("so many were full: %d, so many came to their end: %d, with so many entries: %d", full, ended, wrote)
	}
}

// P14.3: the longest space, full of objects, in a row that leads from the last one to the first one.
func TestLongest(t *testing.T) {
	for space := range 2 {
		for _, n := range []int{1, 6, 14} {
			x := room(4096, 1-space, 0)
			var last uint64
			count := 4096 / (n + 2)
			for i := range count {
				last = put(x, address(space, i*(n+2)), pointers(n), append([]uint64{0, last}, slices.Repeat([]uint64{address(space, 0)}, n-1)...)...)
			}
			rows := [][]uint64{{last, address(space, 0)}, {0}, nil, {last}}
			f, e := flip.Copy(x.M, space, rows)
			if e != api.OK || wantFlipped(t, x, rows, f) != count*(n+2) || f.X.B.At != count*(n+2) {
				t.Errorf("Copy of %d objects: got %d, up to %d", count, e, f.X.B.At)
			}
		}
	}
}

// R3: what comes out is one's own: later calls on it are seen neither in what was handed in nor in what else came out of it.
func TestRoomsAreValues(t *testing.T) {
	for space := range 2 {
		x, l := mixed(space)
		entries, row, _ := good(space)
		rows, logs := [][]uint64{row, {l[0].a}}, [][]api.Entry{entries, nil}
		rooms, before := []api.Room{x}, []api.Room{twice(x)}
		for range 2 {
			for _, from := range slices.Clone(rooms) {
				finished, _, _ := flip.Finish(from, 0, rows[:1], logs)
				refused, _, _ := flip.Finish(from, 0, rows, logs)
				turned, _, _ := flip.Turn(from, rows[:1])
				still, _, _ := flip.Turn(from, rows)
				whole, _ := flip.Whole(from, 0, rows[:1], logs)
				copied, _ := flip.Copy(from.M, 1-space, [][]uint64{{address(1-space, 0)}})
				for _, k := range []api.Room{finished, refused, turned, still, whole.X, copied.X} {
					// A field that is set in what came out is seen nowhere else, either.
					k.M, _ = object.Set(k.M, address(space, 22), 0, 5)
					rooms, before = append(rooms, k), append(before, twice(k))
				}
			}
			for i := range rooms {
				if !alike(rooms[i], before[i]) {
					t.Fatalf("a room was %+v, and is %+v", before[i], rooms[i])
				}
			}
		}
	}
}

// R3: rows that come out are one's own, each of them: what is written into one of them, or put behind it, is seen in no other; whatever room rows have
// behind their ends.
func TestRowsAreValues(t *testing.T) {
	x, _ := mixed(0)
	flat := []uint64{address(1, 0), address(1, 3), 0, address(1, 0), address(1, 16), 0, 0, address(1, 13)}
	// All of one row, each with room that is the next one's.
	rows := [][]uint64{flat[0:2], flat[2:2], flat[2:5], flat[5:6], flat[6:8]}
	logs := [][]api.Entry{{{Obj: address(1, 13)}}}
	was, all := copied(rows), slices.Clone(flat)
	_, twins, _ := flip.Finish(x, 0, rows, logs)
	_, turned, _ := flip.Turn(x, rows)
	whole, _ := flip.Whole(x, 0, rows, logs)
	taken, e := flip.Copy(x.M, 1, rows[1:3])
	if e != api.OK || len(twins) != 4 {
		t.Fatalf("got %#x, %d", twins, e)
	}
	for _, out := range [][][]uint64{{twins}, turned, whole.Rows, taken.Rows} {
		kept := copied(out)
		for i := range out {
			grown := append(out[i], 99)
			for h := range grown {
				grown[h] = 98
			}
			for j := range out {
				if j != i && !slices.Equal(out[j], kept[j]) {
					t.Fatalf("the row %d was %#x, and is %#x", j, kept[j], out[j])
				}
			}
			copy(out[i], kept[i])
		}
		if !equal(rows, was) || !slices.Equal(flat, all) {
			t.Fatalf("what was handed in was %#x, and is %#x", all, flat)
		}
	}
	before := [][][]uint64{copied(turned), copied(whole.Rows), copied(taken.Rows)}
	for h := range flat {
		flat[h] = 97
	}
	for i, out := range [][][]uint64{turned, whole.Rows, taken.Rows} {
		if !equal(out, before[i]) {
			t.Fatalf("what came out was %#x, and is %#x", before[i], out)
		}
	}
}

// R4: the same once more, whatever was called between.
func TestSameOnceMore(t *testing.T) {
	x, l := mixed(1)
	entries, row, at := good(1)
	rows, logs := [][]uint64{row}, [][]api.Entry{entries}
	one, e := flip.Whole(x, at, rows, logs)
	finished, twins, _ := flip.Finish(x, at, rows, logs)
	for _, k := range l {
		flip.Finish(finished, at, [][]uint64{row, {k.a}}, logs)
		flip.Turn(finished, [][]uint64{{k.a}})
		flip.Copy(one.X.M, 1, one.Rows)
		two, f := flip.Whole(x, at, rows, logs)
		again, l, _ := flip.Finish(x, at, rows, logs)
		if !same(one, two) || e != f || !alike(finished, again) || !slices.Equal(twins, l) {
			t.Errorf("Whole: got %+v, %d, and %+v, %d", one, e, two, f)
		}
	}
}

// R1: of rooms that aren't right nothing is promised, but that every call ends, and that what was handed in is as it was.
func TestEveryCallEnds(t *testing.T) {
	x, l := mixed(0)
	y, _ := mixed(1)
	entries, row, _ := good(0)
	for _, k := range l {
		entries = append(entries, api.Entry{Obj: k.a, Field: len(entries)})
	}
	logs := [][]api.Entry{nil, entries, {{Obj: address(1, 7)}}}
	places := []int{math.MinInt, -1, 0, 16, 30, 63, 64, 65, 4097, 1<<62 + 1, math.MaxInt - 1, math.MaxInt}
	memory := []api.Mem{{}, {Words: 64}, {Words: math.MaxInt}, {Words: math.MinInt}, {Words: math.MaxInt, Sp: y.M.Sp}, {Words: 30, Sp: x.M.Sp}, {Words: 64, Sp: [2][]uint64{x.M.Sp[0], nil}}, {Words: 64, Sp: [2][]uint64{nil, x.M.Sp[1]}}, {Words: 64, Sp: [2][]uint64{x.M.Sp[0][:29], x.M.Sp[1][:13]}}, {Words: 70, Sp: [2][]uint64{x.M.Sp[0], y.M.Sp[1]}}, x.M, y.M}
	for _, m := range memory {
		for _, space := range []int{math.MinInt, -1, 0, 1, 2, math.MaxInt} {
			for _, goes := range places {
				limit := places[(goes&7+space&3)%len(places)]
				in := api.Room{M: m, B: api.Bump{Space: space, At: goes, Limit: limit}, T: api.Buf{At: limit, End: goes}}
				for _, rows := range [][][]uint64{nil, {row}, {nil, {l[0].a}}, {{address(0, 7)}, {address(1, 7), address(0, 3)}}} {
					held := kept(t, in, rows, logs)
					for _, at := range places {
						flip.Finish(in, at, rows, nil)
						flip.Whole(in, at, rows, logs)
					}
					flip.Finish(in, 0, rows, logs)
					flip.Turn(in, rows)
					flip.Copy(m, space, rows)
					held()
				}
			}
		}
	}
}
