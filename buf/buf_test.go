package buf_test

import (
	"math"
	"slices"
	"testing"

	"dovecote/api"
	"dovecote/buf"
	"dovecote/walk"
)

// Numbers far outside of all that may be: sums, differences and doubles of them go round at 2^64.
var far = []int{math.MinInt, math.MinInt + 1, math.MinInt + 2, -(1 << 62) - 1, -(1 << 62), -(1 << 32), -4097, -4096, -37, -2, 4097, 4098, 65536, 1<<31 - 1, 1 << 31, 1<<32 - 1, 1 << 32, 1<<32 + 1, 1<<62 - 1, 1 << 62, 1<<62 + 1, math.MaxInt - 4096, math.MaxInt - 18, math.MaxInt - 1, math.MaxInt}

// heads are those of objects of no fields, of one, of some and of sixteen.
var heads = []api.Head{
	{Tag: 1}, {Tag: 200}, {Tag: 1, Len: 1}, {Tag: 7, Len: 1, Map: 1}, {Tag: 1, Len: 2, Map: 2}, {Tag: 199, Len: 3, Map: 5},
	{Tag: 3, Len: 6, Map: 63}, {Tag: 1, Len: 15, Map: 1<<15 - 1}, {Tag: 200, Len: 16}, {Tag: 9, Len: 16, Map: 1<<16 - 1},
}

// refused are heads that aren't right, and fillers'.
func refused() []api.Head {
	l := []api.Head{
		{}, {Tag: -1}, {Tag: 201}, {Tag: 254}, {Tag: 256}, {Tag: 0, Len: 17}, {Tag: 201, Len: 2, Map: 4}, {Tag: 1, Len: -1}, {Tag: 1, Len: -2},
		{Tag: 1, Len: 17}, {Tag: 200, Len: 17, Map: 1 << 17}, {Tag: 1, Map: 1}, {Tag: 1, Len: 1, Map: 2}, {Tag: 1, Len: 16, Map: 1 << 16}, {Tag: 1, Len: 16, Map: 1 << 63},
		{Tag: 255}, {Tag: 255, Len: 1}, {Tag: 255, Len: 2}, {Tag: 255, Len: 16}, {Tag: 255, Len: 4095}, {Tag: 255, Len: 65535}, {Tag: 255, Len: 65536}, {Tag: 255, Len: -1}, {Tag: 255, Len: 2, Map: 1},
	}
	for _, n := range far {
		l = append(l, api.Head{Tag: n}, api.Head{Tag: n, Len: 1, Map: 1}, api.Head{Tag: 1, Len: n}, api.Head{Tag: 255, Len: n})
	}
	return l
}

// address is the measure: told by whole numbers, not by the layers below. So are all measures here.
func address(space, at int) uint64 { return uint64(space+1)*4294967296 + uint64(at) }

// first is a head's word.
func first(h api.Head) uint64 {
	return uint64(h.Tag)*72057594037927936 + uint64(h.Len)*4294967296 + h.Map
}

// filler is the word of a filler of so many words.
func filler(n int) uint64 { return first(api.Head{Tag: 255, Len: n - 1}) }

// marked is memory in which no two words are the same, none is 0, and none is a head's.
func marked(words int) api.Mem {
	m := api.Mem{Words: words}
	for space := range 2 {
		for at := range words {
			m.Sp[space] = append(m.Sp[space], uint64(space)<<63+uint64(1000+at))
		}
	}
	return m
}

// twice is memory once more, which shares nothing with it.
func twice(m api.Mem) api.Mem {
	for space, l := range m.Sp {
		m.Sp[space] = slices.Clone(l)
	}
	return m
}

// with is memory once more, with these words from a place on.
func with(m api.Mem, space, at int, words ...uint64) api.Mem {
	m = twice(m)
	copy(m.Sp[space][at:], words)
	return m
}

// alike: are two rooms the same, word by word?
func alike(x, y api.Room) bool {
	for space := range 2 {
		if !slices.Equal(x.M.Sp[space], y.M.Sp[space]) {
			return false
		}
	}
	return x.M.Words == y.M.Words && x.B == y.B && x.T == y.T
}

// room is one of marked memory: where the space goes on, and the piece.
func room(words, space, at int, t api.Buf) api.Room {
	return api.Room{M: marked(words), B: api.Bump{Space: space, At: at, Limit: words}, T: t}
}

// right is what Right must answer: all that must hold is looked for, one by one.
func right(x api.Room) bool {
	wrong := 0
	if x.M.Words < 16 || x.M.Words > 4096 {
		wrong++
	}
	for space := range 2 {
		if len(x.M.Sp[space]) != x.M.Words {
			wrong++
		}
	}
	if x.B.Space != 0 && x.B.Space != 1 {
		wrong++
	}
	if x.B.At < 0 || x.B.At > x.B.Limit || x.B.Limit > 4096 {
		wrong++
	}
	if x.B.Limit != x.M.Words {
		wrong++
	}
	if x.T != (api.Buf{At: 0, End: 0}) && (x.T.At < 0 || x.T.At > x.T.End || x.T.End > x.B.At) {
		wrong++
	}
	return wrong == 0
}

// gap is what Gap must answer of a right room.
func gap(x api.Room) int {
	n := 0
	for at := x.T.At; at < x.T.End; at++ {
		n++
	}
	return n
}

// retire is what Retire must answer of a right room.
func retire(x api.Room) api.Room {
	if n := gap(x); n > 0 {
		x.M = with(x.M, x.B.Space, x.T.At, filler(n))
	}
	x.T = api.Buf{At: 0, End: 0}
	return x
}

// put is memory with an object at a place.
func put(m api.Mem, space, at int, h api.Head) api.Mem {
	words := make([]uint64, 2+h.Len)
	words[0] = first(h)
	return with(m, space, at, words...)
}

// may: is a head one of an object?
func may(h api.Head) bool {
	return h.Tag >= 1 && h.Tag <= 200 && h.Len >= 0 && h.Len <= 16 && h.Map>>h.Len == 0
}

// made is what Make must answer of a right room.
func made(x api.Room, h api.Head, size int) (api.Room, uint64, api.Errno) {
	if !may(h) {
		return x, 0, api.ErrArg
	}
	n, left := 2+h.Len, x.B.Limit-x.B.At
	if gap(x) < n {
		if size < n+n {
			if left < n {
				return x, 0, api.ErrFull
			}
			a := x.B.At
			x.M, x.B.At = put(x.M, x.B.Space, a, h), a+n
			return x, address(x.B.Space, a), api.OK
		}
		x = retire(x)
		if left < n {
			return x, 0, api.ErrFull
		}
		x.T.At = x.B.At
		x.B.At += min(left, size)
		x.T.End = x.B.At
	}
	a := x.T.At
	x.M, x.T.At = put(x.M, x.B.Space, a, h), a+n
	return x, address(x.B.Space, a), api.OK
}

func wantRetire(t *testing.T, x api.Room) api.Room {
	t.Helper()
	before := x
	before.M = twice(x.M)
	want := retire(before)
	got := buf.Retire(x)
	if !alike(got, want) {
		t.Fatalf("Retire(%+v): got %+v, want %+v", before, got, want)
	}
	if !alike(x, before) {
		t.Fatalf("Retire(%+v): what was handed in is %+v", before, x)
	}
	if !buf.Right(got) || buf.Gap(got) != 0 {
		t.Fatalf("Retire(%+v): got %+v, which isn't right, or has a gap", before, got)
	}
	return got
}

func wantMake(t *testing.T, x api.Room, h api.Head, size int) (api.Room, api.Errno) {
	t.Helper()
	before := x
	before.M = twice(x.M)
	want, a, f := made(before, h, size)
	got, b, e := buf.Make(x, h, size)
	if !alike(got, want) || a != b || e != f {
		t.Fatalf("Make(%+v, %+v, %d): got %+v, %#x, %d, want %+v, %#x, %d", before, h, size, got, b, e, want, a, f)
	}
	if !alike(x, before) {
		t.Fatalf("Make(%+v, %+v, %d): what was handed in is %+v", before, h, size, x)
	}
	if !buf.Right(got) {
		t.Fatalf("Make(%+v, %+v, %d): got %+v, which isn't right", before, h, size, got)
	}
	return got, e
}

// sizes are those of the edges for n words, where so many are left, and far outside.
func sizes(n, left int) []int {
	return append([]int{-1, 0, 1, 2, n - 1, n, n + 1, 2*n - 1, 2 * n, 2*n + 1, 3 * n, left - 1, left, left + 1, 4095, 4096}, far...)
}

// P8.2: the example: an empty room of 16 words, Make of an object of 1 field with size 8: at 0; T is 3 to 8.
func TestExample(t *testing.T) {
	for space := range 2 {
		x := room(16, space, 0, api.Buf{})
		got, a, e := buf.Make(x, api.Head{Tag: 1, Len: 1}, 8)
		if a != uint64(space+1)<<32 || e != 0 || got.T != (api.Buf{At: 3, End: 8}) || got.B != (api.Bump{Space: space, At: 8, Limit: 16}) {
			t.Errorf("Make: got %#x, %d, %+v", a, e, got)
		}
		want := x.M.Sp
		want[space] = []uint64{0x01000001_00000000, 0, 0}
		want[space] = append(want[space], x.M.Sp[space][3:]...)
		if !slices.Equal(got.M.Sp[0], want[0]) || !slices.Equal(got.M.Sp[1], want[1]) {
			t.Errorf("Make: got %#x", got.M.Sp)
		}
		got = buf.Retire(got)
		want[space][3] = 0xff000004_00000000
		if got.T != (api.Buf{}) || got.B.At != 8 || !slices.Equal(got.M.Sp[space], want[space]) {
			t.Errorf("Retire: got %+v", got)
		}
	}
}

// P8.1: what is right, and each thing that isn't, alone.
func TestRight(t *testing.T) {
	long, short := marked(17), marked(15)
	for i, x := range []struct {
		x  api.Room
		is bool
	}{
		{room(16, 0, 0, api.Buf{}), true},
		{room(16, 1, 16, api.Buf{}), true},
		{room(4096, 1, 4096, api.Buf{At: 0, End: 4096}), true},
		{room(16, 1, 9, api.Buf{At: 4, End: 9}), true},   // an End that is B's At
		{room(16, 0, 9, api.Buf{At: 4, End: 8}), true},   // one below it
		{room(16, 0, 9, api.Buf{At: 4, End: 4}), true},   // no gap
		{room(16, 0, 9, api.Buf{At: 9, End: 9}), true},   // none, at the end
		{room(16, 0, 9, api.Buf{At: 0, End: 9}), true},   // from the beginning
		{room(16, 0, 1, api.Buf{At: 0, End: 1}), true},   // a gap of one word
		{room(16, 0, 9, api.Buf{At: 0, End: 10}), false}, // an End above B's At
		{room(16, 0, 9, api.Buf{At: 10, End: 10}), false},
		{room(16, 0, 0, api.Buf{At: 0, End: 1}), false},
		{room(16, 0, 9, api.Buf{At: -1, End: 5}), false}, // an At below 0
		{room(16, 0, 9, api.Buf{At: -1, End: -1}), false},
		{room(16, 0, 9, api.Buf{At: -1, End: 0}), false},
		{room(16, 0, 9, api.Buf{At: 0, End: -1}), false}, // an At above End
		{room(16, 0, 9, api.Buf{At: 5, End: 4}), false},
		{room(16, 0, 9, api.Buf{At: 1, End: 0}), false},
		{room(16, 0, 9, api.Buf{At: math.MinInt, End: math.MaxInt}), false},
		{room(16, 0, 9, api.Buf{At: math.MaxInt, End: math.MinInt}), false},
		{room(16, 0, 9, api.Buf{At: math.MinInt, End: math.MinInt}), false},
		{room(16, 0, -1, api.Buf{}), false}, // a B that isn't right
		{room(16, 0, 17, api.Buf{}), false},
		{room(16, 0, 17, api.Buf{At: 0, End: 17}), false},
		{room(16, -1, 9, api.Buf{At: 4, End: 9}), false},
		{room(16, 2, 9, api.Buf{}), false},
		{room(15, 0, 9, api.Buf{}), false}, // memory that isn't right
		{room(4097, 0, 9, api.Buf{}), false},
		{room(0, 0, 0, api.Buf{}), false},
		{api.Room{}, false},
		{api.Room{M: marked(16), B: api.Bump{Limit: 15}}, false}, // a Limit that isn't Words
		{api.Room{M: marked(16), B: api.Bump{Limit: 17}}, false},
		{api.Room{M: marked(16), B: api.Bump{At: 3, Limit: 4096}, T: api.Buf{At: 1, End: 2}}, false},
		{api.Room{M: marked(16)}, false},
		{api.Room{M: api.Mem{Words: 16}, B: api.Bump{Limit: 16}}, false},
		{api.Room{M: api.Mem{Words: 16, Sp: long.Sp}, B: api.Bump{Limit: 16}}, false},
		{api.Room{M: api.Mem{Words: 16, Sp: short.Sp}, B: api.Bump{Limit: 16}}, false},
		{api.Room{M: api.Mem{Words: 17, Sp: [2][]uint64{long.Sp[0], short.Sp[0]}}, B: api.Bump{Limit: 17}}, false},
		{api.Room{M: api.Mem{Words: 17, Sp: [2][]uint64{short.Sp[0], long.Sp[0]}}, B: api.Bump{Limit: 17}}, false},
	} {
		if got := buf.Right(x.x); got != x.is {
			t.Errorf("Right of room %d, %+v, %+v: got %v", i, x.x.B, x.x.T, got)
		}
	}
}

// P8.1: places, ends and limits of the edges, and far outside, all together.
func TestRightMeasured(t *testing.T) {
	places := []int{math.MinInt, -(1 << 32), -1, 0, 1, 7, 15, 16, 17, 18, 4096, 4097, 1 << 32, 1<<32 + 7, math.MaxInt}
	memory := []api.Mem{{}, marked(15), marked(16), marked(17), {Words: 16, Sp: marked(17).Sp}}
	told := [2]int{}
	for _, m := range memory {
		for _, space := range []int{-1, 0, 1, 2, 1 << 32} {
			for _, limit := range places {
				for _, at := range places {
					for _, from := range places {
						for _, end := range places {
							x := api.Room{M: m, B: api.Bump{Space: space, At: at, Limit: limit}, T: api.Buf{At: from, End: end}}
							want := right(x)
							if got := buf.Right(x); got != want {
								t.Fatalf("Right of %d words, %+v, %+v: got %v", m.Words, x.B, x.T, got)
							}
							if want {
								told[1]++
							} else {
								told[0]++
							}
						}
					}
				}
			}
		}
	}
	if told[0] < 1000 || told[1] < 100 {
		t.Errorf("of so many rooms: %d", told)
	}
}

// P8.1: how many words are left of a piece.
func TestGap(t *testing.T) {
	for _, x := range []struct {
		t    api.Buf
		want int
	}{
		{api.Buf{}, 0}, {api.Buf{At: 0, End: 1}, 1}, {api.Buf{At: 3, End: 3}, 0}, {api.Buf{At: 20, End: 20}, 0}, {api.Buf{At: 3, End: 4}, 1}, {api.Buf{At: 3, End: 8}, 5}, {api.Buf{At: 0, End: 20}, 20}, {api.Buf{At: 19, End: 20}, 1},
	} {
		for space := range 2 {
			if got := buf.Gap(room(30, space, 20, x.t)); got != x.want {
				t.Errorf("Gap of %+v: got %d, want %d", x.t, got, x.want)
			}
		}
	}
	if got := buf.Gap(room(4096, 1, 4096, api.Buf{At: 0, End: 4096})); got != 4096 {
		t.Errorf("Gap of all words: got %d", got)
	}
}

// pieces are all right ones of a space that goes on at a place.
func pieces(at int) func(yield func(api.Buf) bool) {
	return func(yield func(api.Buf) bool) {
		for end := range at + 1 {
			for from := range end + 1 {
				if !yield(api.Buf{At: from, End: end}) {
					return
				}
			}
		}
	}
}

// P8.1: every piece of short spaces, once and twice: one filler's word is written, if there is a gap, and nothing else.
func TestRetire(t *testing.T) {
	for _, words := range []int{16, 17, 20} {
		for space := range 2 {
			for at := range words + 1 {
				for piece := range pieces(at) {
					x := room(words, space, at, piece)
					if got, want := buf.Gap(x), gap(x); got != want {
						t.Fatalf("Gap(%+v): got %d, want %d", x, got, want)
					}
					once := wantRetire(t, x)
					if again := wantRetire(t, once); !alike(again, once) {
						t.Fatalf("Retire(%+v) twice: got %+v, want %+v", x, again, once)
					}
				}
			}
		}
	}
}

// P8.1: a filler of one word, of some, and of a whole space.
func TestRetireWords(t *testing.T) {
	for _, x := range []struct {
		words, at int
		t         api.Buf
		want      uint64
	}{
		{16, 9, api.Buf{At: 4, End: 5}, 0xff000000_00000000},
		{16, 9, api.Buf{At: 4, End: 6}, 0xff000001_00000000},
		{16, 9, api.Buf{At: 4, End: 9}, 0xff000004_00000000},
		{16, 16, api.Buf{At: 15, End: 16}, 0xff000000_00000000},
		{16, 16, api.Buf{At: 0, End: 16}, 0xff00000f_00000000},
		{4096, 4096, api.Buf{At: 0, End: 4096}, 0xff000fff_00000000},
		{4096, 4096, api.Buf{At: 4095, End: 4096}, 0xff000000_00000000},
	} {
		for space := range 2 {
			in := room(x.words, space, x.at, x.t)
			got := wantRetire(t, in)
			if got.M.Sp[space][x.t.At] != x.want || got.B != in.B || got.T != (api.Buf{}) {
				t.Errorf("Retire of %+v: got %#x, %+v, %+v", x.t, got.M.Sp[space][x.t.At], got.B, got.T)
			}
		}
	}
}

// P8.2: heads that aren't right, and fillers', whatever the room and the size: nothing else is asked, and the room is as it was.
func TestMakeRefusedHeads(t *testing.T) {
	for _, x := range []api.Room{
		room(40, 0, 0, api.Buf{}), room(40, 1, 40, api.Buf{}), room(40, 0, 40, api.Buf{At: 3, End: 4}), room(40, 1, 30, api.Buf{At: 3, End: 30}), room(40, 1, 30, api.Buf{At: 30, End: 30}),
	} {
		for _, h := range refused() {
			if may(h) {
				t.Fatalf("%+v is an object's", h)
			}
			for _, size := range append([]int{-1, 0, 1, 4, 10, 40}, far...) {
				got, a, e := buf.Make(x, h, size)
				if !alike(got, x) || a != 0 || e != api.ErrArg {
					t.Fatalf("Make(%+v, %+v, %d): got %+v, %#x, %d", x, h, size, got, a, e)
				}
				wantMake(t, x, h, size)
			}
		}
	}
}

// P8.2: a gap as great as the object, one word more and one less, for objects of every number of fields.
func TestMakeInPiece(t *testing.T) {
	for fields := range 17 {
		h, n := api.Head{Tag: 1 + 12*fields, Len: fields, Map: 1<<fields - 1}, 2+fields
		for by := -1; by <= 1; by++ {
			for _, size := range sizes(n, 20) {
				for space := range 2 {
					x := room(60, space, 40, api.Buf{At: 40 - n - by, End: 40})
					got, e := wantMake(t, x, h, size)
					inPiece := got.B == x.B && got.T == api.Buf{At: 40 - by, End: 40}
					if e != api.OK || inPiece != (by >= 0) {
						t.Fatalf("Make(%+v, %+v, %d): got %+v, %+v, %d", x, h, size, got.B, got.T, e)
					}
				}
			}
		}
	}
}

// P8.2: where twice n is above size, it is made directly, and the piece stays as it is; also where no room is left.
func TestMakeDirect(t *testing.T) {
	for _, h := range heads {
		n := 2 + h.Len
		for _, piece := range []api.Buf{{}, {At: 3, End: 3}, {At: 3, End: 4}, {At: 3, End: 2 + n}} {
			for left := range n + 3 {
				x := room(60, h.Len%2, 60-left, piece)
				for _, size := range append([]int{-1, 0, 1, n - 1, n, n + 1, 2*n - 1}, far[:10]...) {
					got, e := wantMake(t, x, h, size)
					switch {
					case got.T != piece:
						t.Fatalf("Make directly: the piece is %+v, it was %+v", got.T, piece)
					case left < n && (e != api.ErrFull || !alike(got, x)):
						t.Fatalf("Make directly, of %d words, where %d are left: got %+v, %d", n, left, got, e)
					case left >= n && (e != api.OK || got.B.At != 60-left+n):
						t.Fatalf("Make directly, of %d words, where %d are left: got %+v, %d", n, left, got.B, e)
					}
				}
			}
		}
	}
}

// P8.2: where twice n is not above size, a new piece is taken: as many words as size, or all that are left, if these are enough.
func TestMakeInNewPiece(t *testing.T) {
	for _, h := range heads {
		n := 2 + h.Len
		for _, piece := range []api.Buf{{}, {At: 3, End: 3}, {At: 3, End: 4}, {At: 3, End: 2 + n}} {
			for left := range 3*n + 2 {
				x := room(80, h.Len%2, 80-left, piece)
				for _, size := range append([]int{2 * n, 2*n + 1, 3 * n, 81, 4096, 4097}, far[10:]...) {
					got, e := wantMake(t, x, h, size)
					if left < n {
						if e != api.ErrFull || got.B != x.B || got.T != (api.Buf{}) {
							t.Fatalf("Make of %d words with %d, where %d are left: got %+v, %+v, %d", n, size, left, got.B, got.T, e)
						}
						continue
					}
					at := 80 - left
					if e != api.OK || got.T != (api.Buf{At: at + n, End: at + min(size, left)}) || got.B.At != got.T.End {
						t.Fatalf("Make of %d words with %d, where %d are left: got %+v, %+v, %d", n, size, left, got.B, got.T, e)
					}
				}
			}
		}
	}
}

// P8.2: a piece that is retired ahead of a new one: told word by word, where it is made, and where it is refused.
func TestMakeRetires(t *testing.T) {
	h := api.Head{Tag: 7, Len: 2, Map: 1}
	x := room(20, 1, 12, api.Buf{At: 5, End: 8})
	got, a, e := buf.Make(x, h, 8)
	want := []uint64{1000, 1001, 1002, 1003, 1004, 0xff000002_00000000, 1006, 1007, 1008, 1009, 1010, 1011, 0x07000002_00000001, 0, 0, 0, 1016, 1017, 1018, 1019}
	for i := range want {
		if want[i] >= 1000 && want[i] < 1020 {
			want[i] += 1 << 63
		}
	}
	if a != 0x2_0000000c || e != api.OK || got.B.At != 20 || got.T != (api.Buf{At: 16, End: 20}) || !slices.Equal(got.M.Sp[1], want) {
		t.Errorf("Make: got %+v, %#x, %d", got, a, e)
	}
	x = room(20, 1, 17, api.Buf{At: 5, End: 8})
	got, a, e = buf.Make(x, h, 8)
	for i := 12; i < 16; i++ {
		want[i] = x.M.Sp[1][i]
	}
	if a != 0 || e != api.ErrFull || got.B != x.B || got.T != (api.Buf{}) || !slices.Equal(got.M.Sp[1], want) {
		t.Errorf("Make, where 3 words are left: got %+v, %#x, %d", got, a, e)
	}
	// It is made directly with a size of less than 8: nothing is retired.
	got, a, e = buf.Make(x, h, 7)
	if a != 0 || e != api.ErrFull || !alike(got, x) {
		t.Errorf("Make directly, where 3 words are left: got %+v, %#x, %d", got, a, e)
	}
}

// P8.2, R3, R5: every room of a short space, objects of some numbers of fields, and sizes of all edges and far outside.
func TestMakeMeasured(t *testing.T) {
	const words = 16
	for at := range words + 1 {
		for piece := range pieces(at) {
			x := room(words, (at+piece.At)%2, at, piece)
			for i, h := range heads {
				l := sizes(2+h.Len, words-at)
				// All of the far ones, one after the other, in as many rooms.
				l = append(l[:16:16], l[16+(at+piece.End+i)%(len(l)-16)])
				for _, size := range l {
					wantMake(t, x, h, size)
				}
			}
		}
	}
}

// P8.2: as long a space as may be: its first words and its last ones, and a piece that is all of it.
func TestMakeInLongSpace(t *testing.T) {
	for _, h := range heads {
		n := 2 + h.Len
		for _, at := range []int{0, 1, 4096 - 2*n, 4096 - n - 1, 4096 - n, 4096 - n + 1, 4095, 4096} {
			for _, piece := range []api.Buf{{}, {At: 0, End: at}, {At: max(at-n, 0), End: at}, {At: max(at-1, 0), End: at}} {
				x := room(4096, n%2, at, piece)
				for _, size := range []int{0, 2*n - 1, 2 * n, 4095, 4096, 4097, math.MaxInt, math.MinInt} {
					wantMake(t, x, h, size)
				}
				wantRetire(t, x)
			}
		}
	}
}

// object is one that was made: where, of which head, and the words that were written into it since.
type object struct {
	a     uint64
	h     api.Head
	words []uint64
}

// holds: are an object's words all where it was made?
func (o object) holds(m api.Mem) bool {
	space, at := int(o.a/4294967296)-1, int(o.a%4294967296)
	return slices.Equal(m.Sp[space][at:at+len(o.words)], o.words)
}

// written is memory in which an object's word for its twin, and its fields, are words all over (into m itself).
func written(m api.Mem, a uint64, h api.Head, seed uint64) object {
	o := object{a: a, h: h, words: []uint64{first(h)}}
	for i := range 1 + h.Len {
		o.words = append(o.words, seed*6364136223846793005+uint64(i)*1442695040888963407)
	}
	copy(m.Sp[a/4294967296-1][a%4294967296:], o.words)
	return o
}

// wantWalked: a room's space is gone through from its beginning up to where it goes on, and has these objects alone, beside fillers.
func wantWalked(t *testing.T, x api.Room, l []object) {
	t.Helper()
	var want, rest []uint64
	for _, o := range l {
		want = append(want, o.a)
		if !o.holds(x.M) {
			t.Fatalf("the object at %#x isn't what it was, %#x: %#x", o.a, o.words, x.M.Sp)
		}
	}
	slices.Sort(want)
	at := 0
	for at < x.B.At {
		w := x.M.Sp[x.B.Space][at]
		if w>>56 == 255 {
			at += int(w>>32&0xffffff) + 1
			continue
		}
		rest = append(rest, address(x.B.Space, at))
		at += int(w>>32&0xffffff) + 2
	}
	if at != x.B.At || !slices.Equal(rest, want) {
		t.Fatalf("up to %d: got %#x up to %d, want %#x", x.B.At, rest, at, want)
	}
	got, e := walk.Objects(x.M, x.B.Space, x.B.At)
	if e != api.OK || !slices.Equal(got, want) {
		t.Fatalf("Objects up to %d: got %#x, %d, want %#x", x.B.At, got, e, want)
	}
}

// number is the next of a row of numbers all over, the same ones each time.
func number(seed *uint64, n int) int {
	*seed = *seed*6364136223846793005 + 1442695040888963407
	return int(*seed >> 33 % uint64(n))
}

// P8.3: objects are made one after the other, in pieces and directly, till there is no room; each is where nothing was, and its
// words stay. Behind each step the room is right; retired, it is walked, whatever was made up to then.
func TestRowsOfObjects(t *testing.T) {
	for seed := range uint64(120) {
		words := []int{16, 17, 40, 100, 300}[seed%5]
		x := room(words, int(seed/5%2), 0, api.Buf{})
		var l []object
		taken := make([]bool, words)
		full := 0
		for step := seed; full < 5; {
			h := heads[number(&step, len(heads))]
			size := []int{0, 5, 8, 16, 36, 37, 64, 4096}[number(&step, 8)]
			next, e := wantMake(t, x, h, size)
			_, a, _ := buf.Make(x, h, size)
			if x = next; e != api.OK {
				full++
			} else {
				x.M = twice(x.M)
				for i := range 2 + h.Len {
					at := int(a%4294967296) + i
					if taken[at] {
						t.Fatalf("an object of %d words at %#x: there was one before", 2+h.Len, a)
					}
					taken[at] = true
				}
				l = append(l, written(x.M, a, h, step))
			}
			wantWalked(t, wantRetire(t, x), l)
		}
		if len(l) == 0 {
			t.Fatalf("%d: no objects were made", seed)
		}
	}
}

// P8.3: rooms of several pieces of one space, as threads have them: no word of another one's objects changes, and behind Retire of all the space is walked.
func TestPiecesOfThreads(t *testing.T) {
	for seed := range uint64(80) {
		words := 60 + 37*int(seed%7)
		x := room(words, int(seed%2), 0, api.Buf{})
		var threads [4]api.Buf
		var l []object
		for step, full := seed, 0; full < 8; {
			i := number(&step, len(threads))
			h := heads[number(&step, len(heads))]
			x.T = threads[i]
			next, e := wantMake(t, x, h, []int{0, 12, 20, 40}[number(&step, 4)])
			a := address(next.B.Space, next.T.At-2-h.Len)
			if next.T == x.T {
				a = address(next.B.Space, next.B.At-2-h.Len)
			}
			if x, threads[i] = next, next.T; e != api.OK {
				full++
				continue
			}
			x.M = twice(x.M)
			l = append(l, written(x.M, a, h, step))
			for _, o := range l {
				if !o.holds(x.M) {
					t.Fatalf("the object at %#x isn't what it was", o.a)
				}
			}
		}
		for i := range threads {
			x.T = threads[i]
			x = wantRetire(t, x)
		}
		wantWalked(t, x, l)
	}
}

// P8.3: a room that begins behind what is there already: that stays, and is walked, too.
func TestBegunBehindObjects(t *testing.T) {
	for space := range 2 {
		for _, h := range heads {
			x := room(80, space, 0, api.Buf{})
			l := []object{written(x.M, address(space, 0), heads[4], 5)}
			x.M.Sp[space][4] = filler(3)
			l = append(l, written(x.M, address(space, 7), h, 6))
			x.B.At = 9 + h.Len
			wantWalked(t, x, l)
			for _, size := range []int{0, 40} {
				got, a, e := buf.Make(x, h, size)
				if e != api.OK || a != address(space, 9+h.Len) {
					t.Fatalf("Make: got %#x, %d", a, e)
				}
				k := append(slices.Clone(l), object{a, h, append([]uint64{first(h)}, make([]uint64, 1+h.Len)...)})
				wantWalked(t, wantRetire(t, got), k)
			}
		}
	}
}

// R3: what comes out is one's own: two rooms that were made of one don't see what is made in the other.
func TestRoomsAreValues(t *testing.T) {
	x := room(40, 0, 10, api.Buf{At: 4, End: 10})
	for _, size := range []int{0, 20} {
		for _, h := range heads {
			one, a, e := buf.Make(x, h, size)
			before := one
			before.M = twice(one.M)
			two, b, f := buf.Make(x, h, size)
			if a != b || e != f || !alike(one, two) {
				t.Fatalf("Make twice: got %+v, %#x, %d, and %+v, %#x, %d", one, a, e, two, b, f)
			}
			buf.Retire(two)
			three, _, _ := buf.Make(two, heads[0], size)
			buf.Retire(three)
			if !alike(one, before) {
				t.Fatalf("a room was %+v, and is %+v", before, one)
			}
		}
	}
}

// R1: of rooms that aren't right nothing is promised, but that every call ends.
func TestEveryCallEnds(t *testing.T) {
	memory := []api.Mem{{}, {Words: 16}, {Words: math.MaxInt}, {Words: math.MinInt}, marked(16), {Words: 30, Sp: marked(20).Sp}, {Words: 20, Sp: [2][]uint64{marked(20).Sp[0], nil}}}
	places := append([]int{-1, 0, 1, 5, 16, 17}, far...)
	for _, m := range memory {
		for i, at := range places {
			for k, end := range places {
				x := api.Room{M: m, B: api.Bump{Space: i%4 - 1, At: places[(i+k)%7], Limit: places[(3*i+k)%len(places)]}, T: api.Buf{At: at, End: end}}
				before := x
				before.M = twice(m)
				buf.Right(x)
				buf.Gap(x)
				buf.Retire(x)
				for _, size := range []int{math.MinInt, -1, 0, 4, 8, 16, 4096, math.MaxInt} {
					buf.Make(x, heads[k%len(heads)], size)
					buf.Make(x, api.Head{Tag: 255, Len: k}, size)
				}
				if !alike(x, before) {
					t.Fatalf("a room was %+v, and is %+v", before, x)
				}
			}
		}
	}
}
