package arena_test

import (
	"math"
	"testing"

	"dovecote/api"
	"dovecote/arena"
)

// far are numbers at the edges of what an int holds, and far outside of all that is asked for.
var far = []int{math.MinInt, math.MinInt + 1, -(1 << 62), -(1 << 32), -4097, -4096, -17, -16, -2, 4098, 5000, 65536, 1<<31 - 1, 1 << 31, 1<<32 - 1, 1 << 32, 1<<32 + 16, 1 << 62, math.MaxInt - 16, math.MaxInt - 1, math.MaxInt}

// address is the measure: told by whole numbers, not by the layer below.
func address(space, at int) uint64 { return uint64(space+1)*4294967296 + uint64(at) }

// outside are addresses that aren't there in memory of so many words, and such as are no address.
func outside(words int) []uint64 {
	l := []uint64{0, 1, 5, uint64(words), 0xffffffff, address(2, 0), address(2, 5), address(3, 0), 1 << 63, 1<<63 + address(0, 3), 1<<40 + address(1, 3), math.MaxUint64, math.MaxUint64 - 1<<32}
	for space := range 2 {
		for _, at := range []int{words, words + 1, 2 * words, 4096, 4097, 1 << 16, 1 << 31, 1<<32 - 1} {
			l = append(l, address(space, at))
		}
	}
	return l
}

// row is a row of words, all of them others than 0, from a first one on.
func row(first uint64, n int) []uint64 {
	l := make([]uint64, n)
	for i := range l {
		l[i] = first + uint64(i)
	}
	return l
}

// marked is memory in which no two words are the same, and none is 0.
func marked(words int) api.Mem {
	return api.Mem{Words: words, Sp: [2][]uint64{row(1000, words), row(1<<63+1000, words)}}
}

// twice is memory once more, which shares nothing with it.
func twice(m api.Mem) api.Mem {
	for space, l := range m.Sp {
		m.Sp[space] = append([]uint64{}, l...)
	}
	return m
}

// with is the measure of a store: memory once more, with one other word.
func with(m api.Mem, space, at int, v uint64) api.Mem {
	m = twice(m)
	m.Sp[space][at] = v
	return m
}

// moved is the measure of a move: word by word, out of memory that stays as it is.
func moved(m api.Mem, from, at, to, into, n int) api.Mem {
	out := twice(m)
	for i := range n {
		out.Sp[to][into+i] = m.Sp[from][at+i]
	}
	return out
}

// alike holds two against each other without the package that is tested.
func alike(a, b api.Mem) bool {
	for space := range 2 {
		if len(a.Sp[space]) != len(b.Sp[space]) {
			return false
		}
		for i, w := range a.Sp[space] {
			if b.Sp[space][i] != w {
				return false
			}
		}
	}
	return a.Words == b.Words
}

// shares: does a word that is written into the one show in the other? Both are as they were behind it.
func shares(a, b api.Mem) bool {
	for _, l := range a.Sp {
		for i := range l {
			before := twice(b)
			l[i]++
			seen := !alike(b, before)
			l[i]--
			if seen {
				return true
			}
		}
	}
	return false
}

func wantMem(t *testing.T, got, want api.Mem, call string, args ...any) {
	t.Helper()
	if !alike(got, want) {
		t.Fatalf("%s %v: got %v, want %v", call, args, got, want)
	}
}

func wantErr(t *testing.T, got, want api.Errno, call string, args ...any) {
	t.Helper()
	if got != want {
		t.Fatalf("%s %v: got error %d, want %d", call, args, got, want)
	}
}

// P3.1: memory of each number of words that may be, all 0.
func TestNew(t *testing.T) {
	for words := 16; words <= 4096; words++ {
		m, e := arena.New(words)
		wantErr(t, e, api.OK, "New", words)
		if m.Words != words || len(m.Sp[0]) != words || len(m.Sp[1]) != words {
			t.Fatalf("New(%d): %d words, in spaces of %d and %d", words, m.Words, len(m.Sp[0]), len(m.Sp[1]))
		}
		for space := range 2 {
			for at, w := range m.Sp[space] {
				if w != 0 {
					t.Fatalf("New(%d): the word at (%d, %d) is %d", words, space, at, w)
				}
			}
		}
	}
}

// P3.1: numbers of words that may not be.
func TestNewOutside(t *testing.T) {
	below, above := []int{-1, 0, 1, 14, 15}, []int{4097}
	for _, n := range far {
		if n < 0 {
			below = append(below, n)
		} else {
			above = append(above, n)
		}
	}
	for _, words := range below {
		m, e := arena.New(words)
		wantErr(t, e, api.ErrArg, "New", words)
		wantMem(t, m, api.Mem{}, "New", words)
	}
	for _, words := range above {
		m, e := arena.New(words)
		wantErr(t, e, api.ErrBig, "New", words)
		wantMem(t, m, api.Mem{}, "New", words)
	}
}

// P3.1, R4: each memory is its own, and so is each space, also behind its end.
func TestNewIsNew(t *testing.T) {
	a, _ := arena.New(16)
	b, _ := arena.New(16)
	if shares(a, b) {
		t.Error("two memories share words")
	}
	a.Sp[0][15] = 5
	a.Sp[0] = append(a.Sp[0], 7)
	for at, w := range a.Sp[1] {
		if w != 0 {
			t.Errorf("what was written into space 0 is at (1, %d)", at)
		}
	}
	c, _ := arena.New(16)
	wantMem(t, c, b, "New", 16)
}

// P3.1: what is right, at the edges of words, and of what the spaces have.
func TestRight(t *testing.T) {
	for _, x := range []struct {
		words, first, second int
		want                 bool
	}{
		{16, 16, 16, true},
		{17, 17, 17, true},
		{1000, 1000, 1000, true},
		{4095, 4095, 4095, true},
		{4096, 4096, 4096, true},
		{15, 15, 15, false},
		{1, 1, 1, false},
		{0, 0, 0, false},
		{4097, 4097, 4097, false},
		{8192, 8192, 8192, false},
		{16, 15, 15, false},
		{16, 17, 17, false},
		{16, 16, 15, false},
		{16, 15, 16, false},
		{16, 16, 17, false},
		{16, 17, 16, false},
		{17, 16, 16, false},
		{16, 0, 0, false},
		{16, 16, 0, false},
		{16, 0, 16, false},
		{20, 16, 24, false},
		{20, 24, 16, false},
		{15, 16, 16, false},
		{4096, 4096, 4095, false},
		{4096, 4095, 4096, false},
		{4096, 4097, 4096, false},
		{4096, 4096, 4097, false},
		{4097, 4096, 4096, false},
		{0, 16, 16, false},
		{-1, 0, 0, false},
		{-16, 16, 16, false},
		{math.MaxInt, 16, 16, false},
		{math.MinInt, 16, 16, false},
		{1<<32 + 16, 16, 16, false},
	} {
		m := api.Mem{Words: x.words, Sp: [2][]uint64{row(1, x.first), row(1, x.second)}}
		before := twice(m)
		if got := arena.Right(m); got != x.want {
			t.Errorf("Right of %d words, spaces of %d and %d: got %v", x.words, x.first, x.second, got)
		}
		wantMem(t, m, before, "Right leaves")
	}
	if arena.Right(api.Mem{}) || arena.Right(api.Mem{Words: 16}) {
		t.Error("memory without spaces is right")
	}
	// How much room is behind a space's end doesn't matter.
	if arena.Right(api.Mem{Words: 16, Sp: [2][]uint64{row(1, 20)[:15], row(1, 16)}}) {
		t.Error("a space of 15 words with room for more is right")
	}
	if !arena.Right(api.Mem{Words: 16, Sp: [2][]uint64{row(1, 20)[:16], row(1, 16)}}) {
		t.Error("a space of 16 words with room for more isn't right")
	}
}

func wantSame(t *testing.T, what string, a, b api.Mem, want bool) {
	t.Helper()
	first, second := twice(a), twice(b)
	if got := arena.Same(a, b); got != want {
		t.Errorf("Same of %s: got %v", what, got)
	}
	if got := arena.Same(b, a); got != want {
		t.Errorf("Same of %s, turned round: got %v", what, got)
	}
	wantMem(t, a, first, "Same leaves")
	wantMem(t, b, second, "Same leaves")
}

// P3.1: two that are the same, and each word that may be another one.
func TestSame(t *testing.T) {
	for _, words := range []int{16, 17, 300} {
		m := marked(words)
		wantSame(t, "one", m, m, true)
		wantSame(t, "two with the same words", m, twice(m), true)
		for space := range 2 {
			for at := range words {
				w := m.Sp[space][at]
				for _, v := range []uint64{0, w + 1, w ^ 1<<63, w ^ 1<<32} {
					wantSame(t, "two with another word", m, with(m, space, at, v), false)
				}
			}
		}
		wantSame(t, "two whose spaces are turned", m, api.Mem{Words: words, Sp: [2][]uint64{m.Sp[1], m.Sp[0]}}, false)
	}
	wantSame(t, "16 and 17 words", marked(16), marked(17), false)
}

// P3.1: any two, right or not.
func TestSameOfWrong(t *testing.T) {
	spaces := func(words int, a, b []uint64) api.Mem { return api.Mem{Words: words, Sp: [2][]uint64{a, b}} }
	wantSame(t, "nothing", api.Mem{}, api.Mem{}, true)
	wantSame(t, "no words and nil", spaces(0, []uint64{}, nil), spaces(0, nil, []uint64{}), true)
	wantSame(t, "no words, Words 16", spaces(16, nil, nil), spaces(16, []uint64{}, nil), true)
	wantSame(t, "other Words alone", spaces(16, row(1, 16), row(1, 16)), spaces(17, row(1, 16), row(1, 16)), false)
	wantSame(t, "other Words below 0", spaces(-1, nil, nil), spaces(math.MinInt, nil, nil), false)
	wantSame(t, "the same Words below 0", spaces(-1, row(1, 2), nil), spaces(-1, row(1, 2), nil), true)
	wantSame(t, "a word more in space 0", spaces(16, row(1, 16), row(1, 16)), spaces(16, row(1, 17), row(1, 16)), false)
	wantSame(t, "a word more in space 1", spaces(16, row(1, 16), row(1, 16)), spaces(16, row(1, 16), row(1, 17)), false)
	wantSame(t, "a 0 more", spaces(16, make([]uint64, 3), nil), spaces(16, make([]uint64, 4), nil), false)
	wantSame(t, "words in the other space", spaces(16, row(1, 3), nil), spaces(16, nil, row(1, 3)), false)
	wantSame(t, "room behind the end", spaces(16, row(1, 5)[:3], nil), spaces(16, row(1, 3), nil), true)
	wantSame(t, "another word behind Words", spaces(2, []uint64{1, 2, 3}, nil), spaces(2, []uint64{1, 2, 4}, nil), false)
	wantSame(t, "4097 words", spaces(4097, row(1, 4097), row(1, 4097)), spaces(4097, row(1, 4097), row(1, 4097)), true)
}

// P3.1: each word that is there is loaded.
func TestLoad(t *testing.T) {
	for _, words := range []int{16, 17, 100, 4096} {
		m := marked(words)
		before := twice(m)
		for space := range 2 {
			for at := range words {
				v, e := arena.Load(m, address(space, at))
				wantErr(t, e, api.OK, "Load", words, space, at)
				if v != before.Sp[space][at] {
					t.Fatalf("Load at (%d, %d) of %d words: got %d", space, at, words, v)
				}
			}
		}
		for _, a := range outside(words) {
			v, e := arena.Load(m, a)
			wantErr(t, e, api.ErrSpace, "Load", words, a)
			if v != 0 {
				t.Fatalf("Load of %#x of %d words: got %d", a, words, v)
			}
		}
		wantMem(t, m, before, "Load leaves")
	}
}

// P3.1: a store at each place; the chapter's example among them.
func TestStore(t *testing.T) {
	for _, words := range []int{16, 17, 40} {
		m := marked(words)
		before := twice(m)
		for space := range 2 {
			for at := range words {
				for _, v := range []uint64{0, 7, 1 << 32, math.MaxUint64, m.Sp[space][at]} {
					got, e := arena.Store(m, address(space, at), v)
					wantErr(t, e, api.OK, "Store", words, space, at, v)
					wantMem(t, got, with(before, space, at, v), "Store", words, space, at, v)
					wantMem(t, m, before, "Store leaves")
				}
			}
		}
		for _, a := range outside(words) {
			got, e := arena.Store(m, a, 7)
			wantErr(t, e, api.ErrSpace, "Store", words, a)
			wantMem(t, got, before, "Store", words, a)
			wantMem(t, m, before, "Store leaves")
		}
	}
	m, _ := arena.New(16)
	m, _ = arena.Store(m, 2<<32+3, 7)
	v, _ := arena.Load(m, 2<<32+3)
	w, _ := arena.Load(m, 1<<32+3)
	if v != 7 || w != 0 {
		t.Errorf("7 at (1, 3): got %d there, %d at (0, 3)", v, w)
	}
}

// P3.1: the first and the last places of the greatest memory, and one behind.
func TestStoreInTheGreatest(t *testing.T) {
	m := marked(4096)
	before := twice(m)
	for space := range 2 {
		for _, at := range []int{0, 1, 4094, 4095} {
			got, e := arena.Store(m, address(space, at), 9)
			wantErr(t, e, api.OK, "Store", space, at)
			wantMem(t, got, with(before, space, at, 9), "Store", space, at)
		}
		got, e := arena.Store(m, address(space, 4096), 9)
		wantErr(t, e, api.ErrSpace, "Store", space, 4096)
		wantMem(t, got, before, "Store", space, 4096)
	}
	wantMem(t, m, before, "Store leaves")
}

func wantSwap(t *testing.T, m api.Mem, a, old, new uint64, want api.Mem, done bool, e api.Errno) {
	t.Helper()
	before := twice(m)
	got, yes, err := arena.Swap(m, a, old, new)
	if yes != done || err != e {
		t.Fatalf("Swap(%#x, %d, %d): got %v, %d, want %v, %d", a, old, new, yes, err, done, e)
	}
	wantMem(t, got, want, "Swap", a, old, new)
	wantMem(t, m, before, "Swap leaves")
}

// P3.2: a swap at each place, where the word is old, and where it isn't.
func TestSwap(t *testing.T) {
	for _, words := range []int{16, 17, 40} {
		m := marked(words)
		for space := range 2 {
			for at := range words {
				a, w := address(space, at), m.Sp[space][at]
				for _, v := range []uint64{0, 5, w, w + 1, math.MaxUint64} {
					wantSwap(t, m, a, w, v, with(m, space, at, v), true, api.OK)
				}
				for _, old := range []uint64{0, w - 1, w + 1, w ^ 1<<63, w ^ 1<<32, m.Sp[1-space][at], math.MaxUint64} {
					wantSwap(t, m, a, old, 5, m, false, api.OK)
					wantSwap(t, m, a, old, old, m, false, api.OK)
					wantSwap(t, m, a, old, w, m, false, api.OK)
				}
			}
		}
		for _, a := range outside(words) {
			for _, old := range []uint64{0, 5, m.Sp[0][0]} {
				wantSwap(t, m, a, old, 5, m, false, api.ErrSpace)
			}
		}
	}
}

// P3.2: words that are 0 are swapped as all others are; once it is done, it isn't done again.
func TestSwapOnce(t *testing.T) {
	m, _ := arena.New(16)
	for space := range 2 {
		for at := range 16 {
			a := address(space, at)
			wantSwap(t, m, a, 1, 2, m, false, api.OK)
			next, yes, e := arena.Swap(m, a, 0, 1)
			if !yes || e != api.OK {
				t.Fatalf("Swap of 0 at (%d, %d): got %v, %d", space, at, yes, e)
			}
			wantSwap(t, next, a, 0, 2, next, false, api.OK)
			m = next
		}
	}
	for a := range 16 {
		if m.Sp[0][a] != 1 || m.Sp[1][a] != 1 {
			t.Fatalf("not all words are swapped: %v", m)
		}
	}
}

// P3.2: moves between all places of both spaces, of all numbers of words, and of a word more than there are.
func TestMove(t *testing.T) {
	const words = 17
	m := marked(words)
	before := twice(m)
	for n := range words + 3 {
		for i := range 4 * (words + 1) * (words + 1) {
			from, to := i&1, i>>1&1
			at, into := i>>2%(words+1), i>>2/(words+1)
			got, e := arena.Move(m, address(from, at), address(to, into), n)
			if at == words || into == words || at+n > words || into+n > words {
				wantErr(t, e, api.ErrSpace, "Move", from, at, to, into, n)
				wantMem(t, got, before, "Move", from, at, to, into, n)
				continue
			}
			wantErr(t, e, api.OK, "Move", from, at, to, into, n)
			wantMem(t, got, moved(before, from, at, to, into, n), "Move", from, at, to, into, n)
		}
		wantMem(t, m, before, "Move leaves")
	}
}

// P3.2: rows that overlap, to the left and to the right, word for word.
func TestMoveOverlap(t *testing.T) {
	for _, x := range []struct {
		at, into, n int
		want        [16]uint64
	}{
		{0, 1, 15, [16]uint64{1, 1, 2, 3, 4, 5, 6, 7, 8, 9, 10, 11, 12, 13, 14, 15}},
		{1, 0, 15, [16]uint64{2, 3, 4, 5, 6, 7, 8, 9, 10, 11, 12, 13, 14, 15, 16, 16}},
		{2, 5, 6, [16]uint64{1, 2, 3, 4, 5, 3, 4, 5, 6, 7, 8, 12, 13, 14, 15, 16}},
		{5, 2, 6, [16]uint64{1, 2, 6, 7, 8, 9, 10, 11, 9, 10, 11, 12, 13, 14, 15, 16}},
		{4, 4, 9, [16]uint64{1, 2, 3, 4, 5, 6, 7, 8, 9, 10, 11, 12, 13, 14, 15, 16}},
		{0, 0, 16, [16]uint64{1, 2, 3, 4, 5, 6, 7, 8, 9, 10, 11, 12, 13, 14, 15, 16}},
		{3, 9, 0, [16]uint64{1, 2, 3, 4, 5, 6, 7, 8, 9, 10, 11, 12, 13, 14, 15, 16}},
		{15, 0, 1, [16]uint64{16, 2, 3, 4, 5, 6, 7, 8, 9, 10, 11, 12, 13, 14, 15, 16}},
	} {
		for space := range 2 {
			m := api.Mem{Words: 16}
			m.Sp[space], m.Sp[1-space] = row(1, 16), row(500, 16)
			want := twice(m)
			copy(want.Sp[space], x.want[:])
			before := twice(m)
			got, e := arena.Move(m, address(space, x.at), address(space, x.into), x.n)
			wantErr(t, e, api.OK, "Move", space, x.at, x.into, x.n)
			wantMem(t, got, want, "Move", space, x.at, x.into, x.n)
			wantMem(t, m, before, "Move leaves")
		}
	}
}

// P3.2: the greatest moves that there are.
func TestMoveAll(t *testing.T) {
	m := marked(4096)
	for i := range 4 {
		from, to := i&1, i>>1
		got, e := arena.Move(m, address(from, 0), address(to, 0), 4096)
		wantErr(t, e, api.OK, "Move", from, to)
		wantMem(t, got, moved(m, from, 0, to, 0, 4096), "Move", from, to)
		got, e = arena.Move(m, address(from, 0), address(to, 1), 4095)
		wantErr(t, e, api.OK, "Move", from, to)
		wantMem(t, got, moved(m, from, 0, to, 1, 4095), "Move", from, to)
		for _, x := range [][3]int{{0, 0, 4097}, {0, 1, 4096}, {1, 0, 4096}, {4096, 0, 0}, {0, 4096, 0}} {
			got, e = arena.Move(m, address(from, x[0]), address(to, x[1]), x[2])
			wantErr(t, e, api.ErrSpace, "Move", from, to, x)
			wantMem(t, got, m, "Move", from, to, x)
		}
	}
	wantMem(t, m, marked(4096), "Move leaves")
}

// P3.2, R5: numbers of words far outside; what is below 0 is told first, wherever the addresses lead.
func TestMoveOutside(t *testing.T) {
	for _, words := range []int{16, 100, 4096} {
		m := marked(words)
		places := append(outside(words), address(0, 0), address(0, words-1), address(1, 0), address(1, words-1), address(1, 7))
		for _, from := range places {
			for _, to := range places {
				for _, n := range append([]int{-1, 4097}, far...) {
					want := api.ErrSpace
					if n < 0 {
						want = api.ErrArg
					}
					got, e := arena.Move(m, from, to, n)
					wantErr(t, e, want, "Move", words, from, to, n)
					if words == 16 {
						wantMem(t, got, m, "Move", from, to, n)
					}
				}
			}
		}
		wantMem(t, m, marked(words), "Move leaves")
	}
}

// P3.2: an address that isn't there is refused on either side, even for no words.
func TestMoveFromOrToNowhere(t *testing.T) {
	for _, words := range []int{16, 23} {
		m := marked(words)
		for _, a := range outside(words) {
			for _, n := range []int{0, 1, 2, words} {
				for _, x := range [][2]uint64{{a, address(0, 0)}, {address(1, 0), a}, {a, a}} {
					got, e := arena.Move(m, x[0], x[1], n)
					wantErr(t, e, api.ErrSpace, "Move", words, x, n)
					wantMem(t, got, m, "Move", words, x, n)
				}
			}
		}
	}
}

// P3.2: each space is cleared whole, the other one stays; where there is no such space, nothing changes.
func TestClear(t *testing.T) {
	for _, words := range []int{16, 17, 4096} {
		m := marked(words)
		for space := range 2 {
			want := twice(m)
			want.Sp[space] = make([]uint64, words)
			got := arena.Clear(m, space)
			wantMem(t, got, want, "Clear", words, space)
			wantMem(t, arena.Clear(got, space), want, "Clear once more", words, space)
		}
		for _, space := range append([]int{-1, 2, 3}, far...) {
			wantMem(t, arena.Clear(m, space), m, "Clear", words, space)
		}
		wantMem(t, m, marked(words), "Clear leaves")
		zero, _ := arena.New(words)
		wantMem(t, arena.Clear(arena.Clear(m, 0), 1), zero, "Clear of both")
	}
}

// R3: what was changed shares nothing with what was handed in, and its spaces share nothing.
func TestNothingIsShared(t *testing.T) {
	m := marked(16)
	stored, _ := arena.Store(m, address(0, 3), 7)
	swapped, _, _ := arena.Swap(m, address(1, 3), m.Sp[1][3], 7)
	across, _ := arena.Move(m, address(0, 3), address(1, 5), 4)
	none, _ := arena.Move(m, address(0, 3), address(1, 5), 0)
	for i, out := range []api.Mem{stored, swapped, across, none, arena.Clear(m, 0), arena.Clear(m, 1)} {
		if shares(out, m) || shares(m, out) {
			t.Errorf("%d: what comes out shares words with what was handed in", i)
		}
		first, second := api.Mem{}, api.Mem{}
		first.Sp[0], second.Sp[0] = out.Sp[0], out.Sp[1]
		if shares(first, second) {
			t.Errorf("%d: both spaces share words", i)
		}
	}
}

// R3, R4: words behind a space's end are neither read nor written.
func TestRoomBehindTheEnd(t *testing.T) {
	all := [2][]uint64{row(1, 24), row(100, 24)}
	m := api.Mem{Words: 16, Sp: [2][]uint64{all[0][:16], all[1][:16]}}
	for space := range 2 {
		_, e := arena.Load(m, address(space, 16))
		wantErr(t, e, api.ErrSpace, "Load", space)
		_, e = arena.Store(m, address(space, 16), 7)
		wantErr(t, e, api.ErrSpace, "Store", space)
		_, _, e = arena.Swap(m, address(space, 16), all[space][16], 7)
		wantErr(t, e, api.ErrSpace, "Swap", space)
		_, e = arena.Move(m, address(space, 10), address(1-space, 0), 7)
		wantErr(t, e, api.ErrSpace, "Move from", space)
		_, e = arena.Move(m, address(1-space, 0), address(space, 10), 7)
		wantErr(t, e, api.ErrSpace, "Move to", space)
		arena.Clear(m, space)
		got, _ := arena.Store(m, address(space, 15), 7)
		wantMem(t, got, with(m, space, 15, 7), "Store", space)
	}
	wantMem(t, api.Mem{Sp: all}, api.Mem{Sp: [2][]uint64{row(1, 24), row(100, 24)}}, "what is behind the end")
}

// step is a call that is picked by a number, and what it must come to: the measure changes its own memory word by word.
func step(t *testing.T, m, want api.Mem, x uint64) (api.Mem, api.Mem) {
	t.Helper()
	words := uint64(m.Words)
	space, at := int(x>>8&1), int(x>>9%words)
	other, into := int(x>>30&1), int(x>>31%words)
	a, v := address(space, at), x>>50
	switch x % 16 {
	case 0:
		want = twice(want)
		want.Sp[space] = make([]uint64, words)
		return arena.Clear(m, space), want
	case 1, 2, 3:
		old := v % 3 // often the word, often not
		got, yes, e := arena.Swap(m, a, old, v)
		wantErr(t, e, api.OK, "Swap", a, old, v)
		if yes != (want.Sp[space][at] == old) {
			t.Fatalf("Swap(%#x, %d, %d): got %v", a, old, v, yes)
		}
		if yes {
			want = with(want, space, at, v)
		}
		return got, want
	case 4, 5, 6, 7:
		n := int(v) % (m.Words - max(at, into) + 1)
		got, e := arena.Move(m, a, address(other, into), n)
		wantErr(t, e, api.OK, "Move", a, n)
		return got, moved(want, space, at, other, into, n)
	}
	got, e := arena.Store(m, a, v)
	wantErr(t, e, api.OK, "Store", a, v)
	return got, with(want, space, at, v)
}

// P3.3: what was stored is loaded, and nothing else changes, along many calls; nothing that was told changes later (R3).
func TestStoredIsLoaded(t *testing.T) {
	for _, words := range []int{16, 19, 64} {
		m, _ := arena.New(words)
		want := twice(m)
		var told, kept []api.Mem
		x := uint64(words)
		for range 3000 {
			x = x*6364136223846793005 + 1442695040888963407
			m, want = step(t, m, want, x>>1^x>>40)
			wantMem(t, m, want, "step")
			told, kept = append(told, m), append(kept, twice(want))
			if !arena.Right(m) || !arena.Same(m, want) {
				t.Fatalf("%v isn't right, or not the same as %v", m, want)
			}
			for space := range 2 {
				for at := range words {
					if v, e := arena.Load(m, address(space, at)); v != want.Sp[space][at] || e != api.OK {
						t.Fatalf("Load at (%d, %d): got %d, %d", space, at, v, e)
					}
				}
			}
		}
		for i := range told {
			wantMem(t, told[i], kept[i], "what was told at step", i)
		}
	}
}

// P3.3: two stores at two places don't know of each other; of two at one place the later one is there.
func TestTwoStores(t *testing.T) {
	m := marked(16)
	for i := range 32 {
		for j := range 32 {
			a, b := address(i&1, i>>1), address(j&1, j>>1)
			first, _ := arena.Store(m, a, 5)
			second, _ := arena.Store(first, b, 6)
			want := with(with(m, i&1, i>>1, 5), j&1, j>>1, 6)
			wantMem(t, second, want, "two stores", i, j)
			wantMem(t, first, with(m, i&1, i>>1, 5), "the first store", i, j)
		}
	}
}

// R1: memory that isn't right breaks nothing and is not written into, whatever its spaces have.
func TestWrongMemory(t *testing.T) {
	counts := []int{math.MinInt, -1, 0, 1, 15, 16, 20, 4096, 4097, math.MaxInt}
	lengths := []int{0, 1, 15, 16, 17}
	ats := []int{0, 1, 14, 15, 16, 17, 19, 20, 4095, 4096, 1<<32 - 1}
	for i := range len(counts) * len(lengths) * len(lengths) {
		words := counts[i/len(lengths)/len(lengths)]
		m := api.Mem{Words: words, Sp: [2][]uint64{row(1, lengths[i/len(lengths)%len(lengths)]), row(100, lengths[i%len(lengths)])}}
		before := twice(m)
		for j := range 2 * len(ats) {
			a := address(j&1, ats[j>>1])
			v, e := arena.Load(m, a)
			arena.Store(m, a, 7)
			arena.Swap(m, a, v, 7)
			if e == api.OK && (ats[j>>1] >= words || ats[j>>1] >= len(m.Sp[j&1])) {
				t.Fatalf("Load at (%d, %d) of %v: no error", j&1, ats[j>>1], m)
			}
			for k := range 2 * len(ats) {
				for _, n := range []int{-1, 0, 1, 2, 15, 16, 17, math.MaxInt} {
					arena.Move(m, a, address(k&1, ats[k>>1]), n)
				}
			}
		}
		for space := -1; space < 3; space++ {
			arena.Clear(m, space)
		}
		wantMem(t, m, before, "wrong memory")
	}
}
