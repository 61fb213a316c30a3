package stack_test

import (
	"math"
	"slices"
	"testing"

	"dovecote/api"
	"dovecote/stack"
)

// greatest is the greatest word.
const greatest = math.MaxUint64

// mark stands in the room behind a row's end: no call may change it, and none may tell it.
const mark = 0xabadcafe_12345678

// Numbers far outside of all that may be: sums and differences of them go round at 2^64.
var far = []int{math.MinInt, math.MinInt + 1, math.MinInt + 16, -(1 << 62), -(1 << 32), -17, -16, -2, 18, 64, 4096, 1<<31 - 1, 1 << 31, 1<<32 - 1, 1 << 32, 1<<32 + 1, 1 << 62, math.MaxInt - 16, math.MaxInt - 1, math.MaxInt}

// lengths are those of the edges, and longer ones.
var lengths = []int{0, 1, 2, 3, 14, 15, 16, 17, 18, 31, 32, 33, 100, 4096}

// words are addresses of the edges, those of both spaces, and words that are addresses of no place.
var words = []uint64{0, 1, 2, 7, 1<<32 - 1, 1 << 32, 1<<32 + 5, 2 << 32, 2<<32 + 4095, 3 << 32, 1 << 63, greatest - 1, greatest}

// row is one of so many addresses, all of the edges among them, in the place of others.
func row(n int) []uint64 {
	l := make([]uint64, 0, n)
	for i := range n {
		if l = append(l, words[(i*5+n)%len(words)]); i >= len(words) {
			l[i] = 1<<32 + uint64(i)
		}
	}
	return l
}

// roomy is a row once more, with so many marks in the room behind its end.
func roomy(l []uint64, room int) []uint64 {
	n := len(l)
	out := make([]uint64, n+room)
	copy(out, l)
	for i := range room {
		out[n+i] = mark
	}
	return out[:n]
}

// forms are a row in each way it may be handed in: with room behind its end, and without; of none, nil, too.
func forms(l []uint64) [][]uint64 {
	out := [][]uint64{roomy(l, 0), roomy(l, 1), roomy(l, 20)}
	if len(l) == 0 {
		out = append(out, nil)
	}
	return out
}

// whole is a row with the room behind its end.
func whole(l []uint64) []uint64 { return l[:cap(l)] }

// held looks, behind some calls, whether rows are as they were, with the room behind their ends.
func held(t *testing.T, rows ...[]uint64) func() {
	t.Helper()
	var before [][]uint64
	for _, l := range rows {
		before = append(before, slices.Clone(whole(l)))
	}
	return func() {
		t.Helper()
		for i, l := range rows {
			if !slices.Equal(whole(l), before[i]) {
				t.Fatalf("what was handed in was %#x, and is %#x", before[i], whole(l))
			}
		}
	}
}

// alike: are two rows of rows the same?
func alike(a, b [][]uint64) bool { return slices.EqualFunc(a, b, slices.Equal) }

// The measures: each call's promise in the plainest words, by places alone.

// push is what Push must answer.
func push(l []uint64, a uint64) ([]uint64, api.Errno) {
	if len(l) > 15 {
		return l, 4
	}
	out := make([]uint64, len(l)+1)
	copy(out, l)
	out[len(l)] = a
	return out, 0
}

// pop is what Pop must answer.
func pop(l []uint64) ([]uint64, api.Errno) {
	if len(l) < 1 {
		return l, 9
	}
	out := make([]uint64, len(l)-1)
	copy(out, l)
	return out, 0
}

// get is what Get must answer.
func get(l []uint64, h int) (uint64, api.Errno) {
	for place, a := range l {
		if place == h {
			return a, 0
		}
	}
	return 0, 5
}

// realOf is what Real must answer.
func realOf(l []uint64, h int) (uint64, api.Errno) {
	a, e := get(l, h)
	if e == 0 && a == 0 {
		return 0, 6
	}
	return a, e
}

// all is what All must answer.
func all(l [][]uint64) []uint64 {
	var out []uint64
	for _, r := range l {
	next:
		for _, a := range r {
			for _, b := range out {
				if a == b {
					continue next
				}
			}
			if a != 0 {
				out = append(out, a)
			}
		}
	}
	return out
}

// turned is what Turn must answer of one address.
func turned(a uint64, from, to []uint64) uint64 {
	for place, b := range from {
		if a != b {
			continue
		}
		if place < len(to) {
			return to[place]
		}
		return a
	}
	return a
}

// turn is what Turn must answer.
func turn(l [][]uint64, from, to []uint64) [][]uint64 {
	var out [][]uint64
	for _, r := range l {
		var o []uint64
		for _, a := range r {
			o = append(o, turned(a, from, to))
		}
		out = append(out, o)
	}
	return out
}

func wantPush(t *testing.T, l []uint64, a uint64) []uint64 {
	t.Helper()
	look := held(t, l)
	want, f := push(l, a)
	got, e := stack.Push(l, a)
	if !slices.Equal(got, want) || e != f {
		t.Fatalf("Push(%#x, %#x): got %#x, %d, want %#x, %d", l, a, got, e, want, f)
	}
	look()
	return got
}

func wantPop(t *testing.T, l []uint64) []uint64 {
	t.Helper()
	look := held(t, l)
	want, f := pop(l)
	got, e := stack.Pop(l)
	if !slices.Equal(got, want) || e != f {
		t.Fatalf("Pop(%#x): got %#x, %d, want %#x, %d", l, got, e, want, f)
	}
	look()
	return got
}

// wantOne holds Get and Real against the measures.
func wantOne(t *testing.T, l []uint64, h int) {
	t.Helper()
	look := held(t, l)
	a, e := stack.Get(l, h)
	if b, f := get(l, h); a != b || e != f {
		t.Fatalf("Get(%#x, %d): got %#x, %d, want %#x, %d", l, h, a, e, b, f)
	}
	a, e = stack.Real(l, h)
	if b, f := realOf(l, h); a != b || e != f {
		t.Fatalf("Real(%#x, %d): got %#x, %d, want %#x, %d", l, h, a, e, b, f)
	}
	look()
}

func wantAll(t *testing.T, l [][]uint64) []uint64 {
	t.Helper()
	look, before := held(t, l...), slices.Clone(l)
	got := stack.All(l)
	if want := all(l); !slices.Equal(got, want) {
		t.Fatalf("All(%#x): got %#x, want %#x", l, got, want)
	}
	look()
	if !alike(l, before) {
		t.Fatalf("All(%#x): what was handed in is %#x", before, l)
	}
	return got
}

func wantTurn(t *testing.T, l [][]uint64, from, to []uint64) [][]uint64 {
	t.Helper()
	look, before := held(t, append([][]uint64{from, to}, l...)...), slices.Clone(l)
	got := stack.Turn(l, from, to)
	if want := turn(l, from, to); !alike(got, want) {
		t.Fatalf("Turn(%#x, %#x, %#x): got %#x, want %#x", l, from, to, got, want)
	}
	look()
	if !alike(l, before) {
		t.Fatalf("Turn(%#x, %#x, %#x): what was handed in is %#x", before, from, to, l)
	}
	return got
}

// P9.1: the example: Push of 7 on an empty row, Get of 0: 7; of 1: ErrHandle.
func TestExample(t *testing.T) {
	for _, l := range forms(nil) {
		got, e := stack.Push(l, 7)
		if !slices.Equal(got, []uint64{7}) || e != 0 {
			t.Errorf("Push: got %#x, %d", got, e)
		}
		if a, e := stack.Get(got, 0); a != 7 || e != 0 {
			t.Errorf("Get of 0: got %#x, %d", a, e)
		}
		if a, e := stack.Get(got, 1); a != 0 || e != 5 {
			t.Errorf("Get of 1: got %#x, %d", a, e)
		}
		if a, e := stack.Real(got, 0); a != 7 || e != 0 {
			t.Errorf("Real of 0: got %#x, %d", a, e)
		}
	}
}

// P9.1: what is pushed stands behind, up to 16 of them; of 16 or more it is refused, and the row is as it was (R2).
func TestPush(t *testing.T) {
	for _, x := range []struct {
		n int
		e api.Errno
	}{{0, api.OK}, {1, api.OK}, {14, api.OK}, {15, api.OK}, {16, api.ErrFull}, {17, api.ErrFull}, {100, api.ErrFull}} {
		for _, l := range forms(row(x.n)) {
			got, e := stack.Push(l, 7)
			want := append(row(x.n), 7)
			if x.e != api.OK {
				want = row(x.n)
			}
			if !slices.Equal(got, want) || e != x.e {
				t.Errorf("Push on %d: got %#x, %d", x.n, got, e)
			}
		}
	}
}

// P9.1: rows of all lengths of the edges, and each address of them.
func TestPushMeasured(t *testing.T) {
	for _, n := range lengths {
		for _, a := range words {
			for _, l := range forms(row(n)) {
				wantPush(t, l, a)
			}
		}
	}
}

// P9.1: the last one is taken off, of rows that are longer than may be, too; of none it is refused.
func TestPop(t *testing.T) {
	for _, l := range forms(nil) {
		if got, e := stack.Pop(l); len(got) != 0 || e != api.ErrEmpty {
			t.Errorf("Pop of none: got %#x, %d", got, e)
		}
	}
	for _, n := range []int{1, 2, 15, 16, 17, 100} {
		for _, l := range forms(row(n)) {
			if got, e := stack.Pop(l); !slices.Equal(got, row(n)[:n-1]) || e != api.OK {
				t.Errorf("Pop of %d: got %#x, %d", n, got, e)
			}
		}
	}
	for _, n := range lengths {
		for _, l := range forms(row(n)) {
			wantPop(t, l)
		}
	}
}

// P9.1: handles beside the edges of a row, of an address that is 0, and of the room behind the row's end.
func TestGetAndReal(t *testing.T) {
	for _, x := range []struct {
		l    []uint64
		h    int
		a    uint64
		e    api.Errno
		real api.Errno
	}{
		{nil, -1, 0, api.ErrHandle, api.ErrHandle},
		{nil, 0, 0, api.ErrHandle, api.ErrHandle},
		{nil, 1, 0, api.ErrHandle, api.ErrHandle},
		{[]uint64{}, 0, 0, api.ErrHandle, api.ErrHandle},
		{roomy(nil, 3), 0, 0, api.ErrHandle, api.ErrHandle},
		{[]uint64{5}, -1, 0, api.ErrHandle, api.ErrHandle},
		{[]uint64{5}, 0, 5, api.OK, api.OK},
		{[]uint64{5}, 1, 0, api.ErrHandle, api.ErrHandle},
		{[]uint64{5}, 2, 0, api.ErrHandle, api.ErrHandle},
		{[]uint64{0}, -1, 0, api.ErrHandle, api.ErrHandle},
		{[]uint64{0}, 0, 0, api.OK, api.ErrNull},
		{[]uint64{0}, 1, 0, api.ErrHandle, api.ErrHandle},
		{[]uint64{1, 0, greatest}, 0, 1, api.OK, api.OK},
		{[]uint64{1, 0, greatest}, 1, 0, api.OK, api.ErrNull},
		{[]uint64{1, 0, greatest}, 2, greatest, api.OK, api.OK},
		{[]uint64{1, 0, greatest}, 3, 0, api.ErrHandle, api.ErrHandle},
		{roomy([]uint64{1, 0}, 3), 2, 0, api.ErrHandle, api.ErrHandle},
		{roomy([]uint64{1, 0}, 3), math.MinInt, 0, api.ErrHandle, api.ErrHandle},
		{roomy([]uint64{1, 0}, 3), math.MaxInt, 0, api.ErrHandle, api.ErrHandle},
	} {
		if a, e := stack.Get(x.l, x.h); a != x.a || e != x.e {
			t.Errorf("Get(%#x, %d): got %#x, %d", x.l, x.h, a, e)
		}
		if a, e := stack.Real(x.l, x.h); a != x.a || e != x.real {
			t.Errorf("Real(%#x, %d): got %#x, %d", x.l, x.h, a, e)
		}
	}
}

// P9.1: rows of all lengths of the edges, all their handles, those beside them, and far outside.
func TestGetAndRealMeasured(t *testing.T) {
	for _, n := range lengths {
		for _, l := range forms(row(n)) {
			for h := -2; h < n+3 && h < 40; h++ {
				wantOne(t, l, h)
			}
			for _, h := range append([]int{n - 2, n - 1, n, n + 1, n + 19, n + 20, n + 21, -n, -n - 1}, far...) {
				wantOne(t, l, h)
			}
		}
	}
}

// P9.2: no rows, rows of none, addresses that stand more than once, and 0.
func TestAll(t *testing.T) {
	for _, x := range []struct {
		l    [][]uint64
		want []uint64
	}{
		{nil, nil},
		{[][]uint64{}, nil},
		{[][]uint64{nil}, nil},
		{[][]uint64{{}, nil, {}}, nil},
		{[][]uint64{{0}}, nil},
		{[][]uint64{{0, 0}, nil, {0}}, nil},
		{[][]uint64{{5}}, []uint64{5}},
		{[][]uint64{{5, 5}}, []uint64{5}},
		{[][]uint64{{5}, {5}}, []uint64{5}},
		{[][]uint64{{5}, nil, {}, {6, 5}}, []uint64{5, 6}},
		{[][]uint64{{9, 2, 9, 5}}, []uint64{9, 2, 5}}, // in order, not rising; by its first place
		{[][]uint64{{9, 2}, {5, 2}, {1, 9, 7}}, []uint64{9, 2, 5, 1, 7}},
		{[][]uint64{{0, 3, 0, 1}, {0}, {1, 0, 4}}, []uint64{3, 1, 4}},
		{[][]uint64{{greatest, 1}, {0, greatest, 1}}, []uint64{greatest, 1}},
		{[][]uint64{roomy([]uint64{8}, 3), roomy(nil, 2), {7}}, []uint64{8, 7}},
	} {
		if got := stack.All(x.l); !slices.Equal(got, x.want) {
			t.Errorf("All(%#x): got %#x, want %#x", x.l, got, x.want)
		}
		wantAll(t, x.l)
	}
}

// rising goes through all rows of at most so many addresses below most.
func rising(n int, most uint64) [][]uint64 {
	out := [][]uint64{nil}
	for i := 0; i < len(out); i++ {
		if len(out[i]) == n {
			continue
		}
		for a := range most {
			out = append(out, append(slices.Clone(out[i]), a))
		}
	}
	return out
}

// P9.2: all pairs of short rows, and rows in which each address stands at all places.
func TestAllMeasured(t *testing.T) {
	short := rising(4, 4)
	for _, a := range short {
		for _, b := range short {
			wantAll(t, [][]uint64{a, b})
		}
	}
	for i := range words {
		var l [][]uint64
		for _, n := range lengths {
			if n > 100 {
				continue
			}
			l = append(l, row(n), append(slices.Clone(words[i:]), words[:i]...))
			wantAll(t, l)
		}
	}
}

// P9.2: what is turned, and what isn't, where the document's words tell an edge.
func TestTurn(t *testing.T) {
	for _, x := range []struct {
		l        [][]uint64
		from, to []uint64
		want     [][]uint64
	}{
		{nil, nil, nil, nil}, // no rows
		{nil, []uint64{1}, []uint64{2}, nil},
		{[][]uint64{}, []uint64{1}, []uint64{2}, nil},
		{[][]uint64{nil}, []uint64{1}, []uint64{2}, [][]uint64{nil}}, // rows of none
		{[][]uint64{{}, {1}, nil}, []uint64{1}, []uint64{2}, [][]uint64{nil, {2}, nil}},
		{[][]uint64{{1, 2}}, nil, nil, [][]uint64{{1, 2}}}, // nothing is told
		{[][]uint64{{1, 2}}, []uint64{}, []uint64{}, [][]uint64{{1, 2}}},
		{[][]uint64{{1, 2}}, []uint64{1}, nil, [][]uint64{{1, 2}}},
		{[][]uint64{{1, 2}}, nil, []uint64{5}, [][]uint64{{1, 2}}},
		{[][]uint64{{1, 2}, {2, 3}}, []uint64{1, 2}, []uint64{5, 6}, [][]uint64{{5, 6}, {6, 3}}},
		{[][]uint64{{2, 1, 2}}, []uint64{2}, []uint64{8}, [][]uint64{{8, 1, 8}}},           // more than once in a row
		{[][]uint64{{1, 2, 3}}, []uint64{1, 2, 3}, []uint64{7, 8}, [][]uint64{{7, 8, 3}}},  // to shorter than from
		{[][]uint64{{1, 2, 3}}, []uint64{1, 2}, []uint64{7, 8, 9}, [][]uint64{{7, 8, 3}}},  // and longer
		{[][]uint64{{1, 2}}, []uint64{1, 2, 1}, []uint64{7, 8, 9}, [][]uint64{{7, 8}}},     // twice in from: the first
		{[][]uint64{{1, 2}}, []uint64{1, 1}, []uint64{7}, [][]uint64{{7, 2}}},              // also where to has that alone
		{[][]uint64{{1, 2}}, []uint64{2, 1, 1}, []uint64{7}, [][]uint64{{1, 7}}},           // its first place isn't one of to's
		{[][]uint64{{1, 2}}, []uint64{2, 2, 2, 1, 1}, []uint64{7, 8}, [][]uint64{{1, 7}}},  // nor behind others
		{[][]uint64{{1, 2, 3}}, []uint64{1, 2}, []uint64{2, 3}, [][]uint64{{2, 3, 3}}},     // one of to is one of from: each is turned once
		{[][]uint64{{1, 2}}, []uint64{1, 2}, []uint64{2, 1}, [][]uint64{{2, 1}}},           // they change places
		{[][]uint64{{1, 2}}, []uint64{2, 1}, []uint64{1, 2}, [][]uint64{{2, 1}}},           // also told the other way round
		{[][]uint64{{1, 2}}, []uint64{1}, []uint64{1}, [][]uint64{{1, 2}}},                 // itself
		{[][]uint64{{1, 2}}, []uint64{1, 1}, []uint64{1, 9}, [][]uint64{{1, 2}}},           // itself first
		{[][]uint64{{1, 2}}, []uint64{1, 2}, []uint64{5, 5}, [][]uint64{{5, 5}}},           // two become one
		{[][]uint64{{0, 1}, {0}}, []uint64{1}, []uint64{5}, [][]uint64{{0, 5}, {0}}},       // 0 in a row
		{[][]uint64{{0, 1}, {0}}, []uint64{0, 1}, []uint64{5, 6}, [][]uint64{{5, 6}, {5}}}, // 0 in from: an address like others
		{[][]uint64{{0, 1}, {1}}, []uint64{1}, []uint64{0}, [][]uint64{{0, 0}, {0}}},       // 0 in to
		{[][]uint64{{0, 1}}, []uint64{0, 1}, []uint64{1, 0}, [][]uint64{{1, 0}}},
		{[][]uint64{{0, 1}}, []uint64{0}, nil, [][]uint64{{0, 1}}},
		{[][]uint64{{greatest, 1}}, []uint64{1, greatest}, []uint64{greatest, 1}, [][]uint64{{1, greatest}}},
		{[][]uint64{roomy([]uint64{1}, 2)}, roomy([]uint64{1}, 2), roomy([]uint64{2}, 2), [][]uint64{{2}}}, // room behind them
		{[][]uint64{{mark, 1}}, roomy([]uint64{1}, 2), roomy([]uint64{2}, 2), [][]uint64{{mark, 2}}},
		{[][]uint64{{1, 2}}, []uint64{1, 2}, roomy([]uint64{5}, 2), [][]uint64{{5, 2}}},
	} {
		if got := stack.Turn(x.l, x.from, x.to); !alike(got, x.want) {
			t.Errorf("Turn(%#x, %#x, %#x): got %#x, want %#x", x.l, x.from, x.to, got, x.want)
		}
		wantTurn(t, x.l, x.from, x.to)
	}
}

// P9.2: all short rows, all short from and to, all together: each address of them may be in each place.
func TestTurnMeasured(t *testing.T) {
	short := rising(3, 4)
	for _, from := range short {
		for _, to := range short {
			wantTurn(t, short, from, to)
		}
	}
}

// P9.2: addresses of the edges in long rows, by all lengths of from and to.
func TestTurnOfLongRows(t *testing.T) {
	var l [][]uint64
	for _, n := range lengths {
		l = append(l, row(n), roomy(row(n), 4))
	}
	for _, n := range []int{0, 1, 2, 13, 16, 17, 100} {
		for _, m := range []int{0, 1, 2, 12, 13, 16, 17, 100} {
			from, to := row(n), row(m)
			slices.Reverse(to)
			wantTurn(t, l, from, to)
			wantTurn(t, l, roomy(from, 5), roomy(to, 5))
			wantTurn(t, l, append(from, row(m)...), to) // some stand twice in from
		}
	}
}

// P9.2: rows, from and to that are far longer than programs make them: the calls end soon all the same.
func TestVeryLong(t *testing.T) {
	const n = 1 << 17
	from, to, back := make([]uint64, n), make([]uint64, n), make([]uint64, n)
	for i := range n {
		from[i], to[i], back[n-1-i] = 1<<32+uint64(i), 2<<32+uint64(i), 1<<32+uint64(i)
	}
	if got := stack.All([][]uint64{from, from, back, to}); !slices.Equal(got, append(slices.Clone(from), to...)) {
		t.Errorf("All: got %d addresses", len(got))
	}
	got := stack.Turn([][]uint64{from, back, to}, from, to)
	slices.Reverse(back)
	for i := range n {
		if got[0][i] != to[i] || got[1][n-1-i] != to[i] || got[2][i] != to[i] || back[i] != from[i] {
			t.Fatalf("Turn: got %#x, %#x, %#x at the place %d", got[0][i], got[1][n-1-i], got[2][i], i)
		}
	}
}

// P9.3: what was pushed last is popped first: up to where it is full, down to where it is empty.
func TestLastIn(t *testing.T) {
	var l []uint64
	for i := range 16 {
		l = wantPush(t, l, words[i%len(words)])
	}
	wantPush(t, l, 7)
	for i := range 16 {
		h := 15 - i
		if a, e := stack.Get(l, h); a != words[h%len(words)] || e != api.OK {
			t.Fatalf("Get of %d: got %#x, %d", h, a, e)
		}
		l = wantPop(t, l)
		if _, e := stack.Get(l, h); e != api.ErrHandle {
			t.Fatalf("Get of %d, which is popped: got %d", h, e)
		}
	}
	wantPop(t, l)
}

// P9.3: pushed and popped again, a row is as it was.
func TestPushedAndPopped(t *testing.T) {
	for n := range 16 {
		for _, a := range words {
			for _, l := range forms(row(n)) {
				if got := wantPop(t, wantPush(t, l, a)); !slices.Equal(got, l) {
					t.Fatalf("pushed on %#x and popped: got %#x", l, got)
				}
			}
		}
	}
}

// P9.3: long rows of pushes and pops, as a row of numbers tells, held against a row that is kept here; no row that came out on the way is changed later.
func TestLongRowsOfCalls(t *testing.T) {
	for seed := range uint64(20) {
		l := roomy(nil, int(seed))
		var kept, had [][]uint64
		for range 500 {
			seed = seed*6364136223846793005 + 1442695040888963407
			if seed>>62 != 0 {
				l = wantPush(t, l, seed)
			} else {
				l = wantPop(t, l)
			}
			kept, had = append(kept, l), append(had, slices.Clone(l))
		}
		for i := range kept {
			if !slices.Equal(kept[i], had[i]) {
				t.Fatalf("the row behind step %d was %#x, and is %#x", i, had[i], kept[i])
			}
		}
		from := slices.Clone(l)
		if got := stack.Turn(kept, from, words); !alike(got, turn(had, from, words)) || !alike(kept, had) {
			t.Fatalf("Turn of all of them by %#x: got %#x", from, got)
		}
	}
}

// P9.3: turned there and back, all is as it was: for from and to without doubles, of the same length, shorter and longer, none of to in the rows.
func TestThereAndBack(t *testing.T) {
	short := rising(3, 4)
	rows := append(rising(3, 4), row(3), row(16), row(17), nil)
	for _, from := range short {
		for m := range 5 {
			to := []uint64{1 << 40, 1<<40 + 9, 1<<40 + 3, 1<<40 + 4, 1<<40 + 1}[:m]
			if len(all([][]uint64{from})) != len(from) {
				continue // two are the same, or one is 0; that one has a test of its own
			}
			if got := wantTurn(t, wantTurn(t, rows, from, to), to, from); !alike(got, rows) {
				t.Fatalf("by %#x and %#x: got %#x", from, to, got)
			}
		}
	}
	for _, x := range []struct {
		l        [][]uint64
		from, to []uint64
	}{
		{[][]uint64{{0, 1}, {0}}, []uint64{0, 1}, []uint64{5, 6}},            // 0 in from
		{[][]uint64{{2, 1}, {3}}, []uint64{1}, []uint64{0}},                  // 0 in to, and in no row
		{[][]uint64{{1, 2}, {2}}, []uint64{1, 3}, []uint64{3, 4}},            // one of to is one of from, and in no row
		{[][]uint64{words, words[3:]}, words[2:9], []uint64{71, 72, 73, 74}}, // some of the edges
	} {
		if got := wantTurn(t, wantTurn(t, x.l, x.from, x.to), x.to, x.from); !alike(got, x.l) {
			t.Errorf("%#x by %#x and %#x: got %#x", x.l, x.from, x.to, got)
		}
	}
}

// R3: what is pushed on a row isn't seen by who has another that goes on from it, also where there is room behind it.
func TestTwoGoOnFromOne(t *testing.T) {
	for n := range 16 {
		for _, l := range forms(row(n)) {
			look := held(t, l)
			a, _ := stack.Push(l, 41)
			b, _ := stack.Push(l, 42)
			c, _ := stack.Push(b[:n], 43) // cut by who has it: the 42 is room behind its end now
			if a[n] != 41 || b[n] != 42 || c[n] != 43 {
				t.Fatalf("Push on %#x: got %#x, %#x, %#x", l, a, b, c)
			}
			look()
			a, _ = stack.Pop(b)
			d, _ := stack.Push(a, 44)
			e, _ := stack.Pop(d)
			if b[n] != 42 || d[n] != 44 || !slices.Equal(a, l) || !slices.Equal(e, l) {
				t.Fatalf("Pop of %#x, Push: got %#x, %#x, %#x", b, a, d, e)
			}
			look()
		}
	}
}

// R3: a row that is handed back with an error is taken on like any other: who had it sees nothing of that.
func TestRefusedAndTakenOn(t *testing.T) {
	for _, n := range []int{16, 17, 100} {
		for _, l := range forms(row(n)) {
			look := held(t, l)
			a, e := stack.Push(l, 41)
			if e != api.ErrFull {
				t.Fatalf("Push on %d: got %d", n, e)
			}
			for range n - 15 {
				a, _ = stack.Pop(a)
			}
			a, _ = stack.Push(a, 42)
			if !slices.Equal(a, append(row(n)[:15], 42)) {
				t.Fatalf("of %d: got %#x", n, a)
			}
			look()
		}
	}
	for _, l := range forms(nil) {
		look := held(t, l)
		a, _ := stack.Pop(l)
		if a = wantPush(t, a, 43); !slices.Equal(a, []uint64{43}) {
			t.Fatalf("Pop of none, Push: got %#x", a)
		}
		look()
	}
}

// R3: what comes out is memory of its own: who writes into it, and into the room behind its end, changes nothing that was handed in, and no other row of it.
func TestMemoryOfItsOwn(t *testing.T) {
	spoil := func(l []uint64) {
		for i := range whole(l) {
			whole(l)[i] = 99
		}
	}
	for _, n := range []int{1, 2, 15, 16, 17, 40} {
		for _, l := range forms(row(n)) {
			look := held(t, l)
			if out, e := stack.Push(l, 41); e == api.OK {
				spoil(out)
			}
			if out, e := stack.Pop(l); e == api.OK {
				spoil(out)
			}
			spoil(stack.All([][]uint64{l, l}))
			look()
			for _, by := range [][]uint64{nil, l, l[:1], {mark}} { // also by the row itself
				out := stack.Turn([][]uint64{l, nil, l, l[:n-1]}, by, by)
				spoil(out[0])
				if !slices.Equal(out[2], l) || !slices.Equal(out[3], l[:n-1]) || len(out[1]) != 0 {
					t.Fatalf("Turn(%#x, %#x): two of its rows share memory: %#x", l, by, out)
				}
				spoil(out[3])
				if !slices.Equal(out[2], l) {
					t.Fatalf("Turn(%#x, %#x): two of its rows share memory: %#x", l, by, out)
				}
				look()
			}
		}
	}
}

// R3: the row of rows stays as it was, and so does what came out, when the other is changed.
func TestRowsOfTheirOwn(t *testing.T) {
	rows := [][]uint64{{1, 2}, {3}, {4}}
	l := rows[:2]
	out := stack.Turn(l, []uint64{1}, []uint64{5})
	again := stack.Turn(out, []uint64{5, 3}, []uint64{6, 7})
	if !alike(rows, [][]uint64{{1, 2}, {3}, {4}}) || !alike(out, [][]uint64{{5, 2}, {3}}) || !alike(again, [][]uint64{{6, 2}, {7}}) {
		t.Fatalf("got %#x, %#x, %#x", rows, out, again)
	}
	_ = append(out, []uint64{8})
	l[0] = []uint64{9}
	if !alike(out, [][]uint64{{5, 2}, {3}}) || !alike(rows, [][]uint64{{9}, {3}, {4}}) {
		t.Fatalf("got %#x, %#x", rows, out)
	}
}

// R4: asked again, and with other calls between, the answers are the same.
func TestTheSameAgain(t *testing.T) {
	l := [][]uint64{row(17), row(13), nil, row(40)}
	told, out := stack.All(l), stack.Turn(l, words, row(30))
	for range 50 {
		wantAll(t, [][]uint64{row(5)})
		wantTurn(t, l, row(3), words)
		if !slices.Equal(stack.All(l), told) || !alike(stack.Turn(l, words, row(30)), out) {
			t.Fatal("asked again, it is answered something else")
		}
	}
}
