package bump_test

import (
	"math"
	"math/big"
	"testing"

	"dovecote/api"
	"dovecote/bump"
)

// Numbers far outside of all that may be: sums and differences of them go round at 2^64.
var far = []int{math.MinInt, math.MinInt + 1, math.MinInt + 4096, -(1 << 62) - 1, -(1 << 62), -(1 << 32), -4097, -4096, -2, 3, 4098, 65536, 1<<31 - 1, 1 << 31, 1<<32 - 1, 1 << 32, 1<<32 + 1, 1 << 62, 1<<62 + 1, math.MaxInt - 4096, math.MaxInt - 1, math.MaxInt}

// spaces, limits and counts are those of the edges, beside them, and far outside.
var (
	spaces = append([]int{-1, 0, 1, 2}, far...)
	limits = append([]int{-1, 0, 1, 2, 10, 15, 16, 17, 4095, 4096, 4097}, far...)
	counts = append([]int{-1, 0, 1, 2, 4, 7, 4095, 4096, 4097}, far...)
)

// bumps are all of those spaces and limits, with places at the edges of each.
func bumps(yield func(api.Bump) bool) {
	for _, space := range spaces {
		for _, limit := range limits {
			for _, at := range append([]int{-1, 0, 1, 2, limit / 2, limit - 2, limit - 1, limit, limit + 1}, far...) {
				if !yield(api.Bump{Space: space, At: at, Limit: limit}) {
					return
				}
			}
		}
	}
}

// near are the numbers of words that are asked for of a bump: those of the edges of what is left, and far outside.
func near(b api.Bump) []int {
	left := b.Limit - b.At // in the tests, too, it may go round: then it is just another number
	return append([]int{left - 1, left, left + 1, b.At, b.Limit, b.Limit + 1}, counts...)
}

// whole is a number of any size: nothing goes round in it. The measures here reckon with such alone.
func whole(n int) *big.Int { return big.NewInt(int64(n)) }

// right is what Right must answer: all that must hold is looked for, one by one.
func right(b api.Bump) bool {
	wrong := 0
	if b.Space != 0 && b.Space != 1 {
		wrong++
	}
	if b.At < 0 {
		wrong++
	}
	if b.At > b.Limit {
		wrong++
	}
	if b.Limit > 4096 {
		wrong++
	}
	return wrong == 0
}

// left is what Left must answer.
func left(b api.Bump) int {
	if !right(b) {
		return 0
	}
	n := 0
	for at := b.At; at < b.Limit; at++ {
		n++
	}
	return n
}

// address is told by whole numbers, not by the layer below.
func address(space, at int) uint64 { return uint64(space+1)*4294967296 + uint64(at) }

// take is what Take must answer.
func take(b api.Bump, n int) (api.Bump, uint64, api.Errno) {
	end := new(big.Int).Add(whole(b.At), whole(n))
	switch {
	case !right(b), n < 1:
		return b, 0, api.ErrArg
	case end.Cmp(whole(b.Limit)) > 0:
		return b, 0, api.ErrFull
	}
	return api.Bump{Space: b.Space, At: int(end.Int64()), Limit: b.Limit}, address(b.Space, b.At), api.OK
}

// most is what Most must answer: take of n; of all that is left, if these are fewer; or nothing.
func most(b api.Bump, n int) (api.Bump, uint64, int) {
	if l := left(b); l < n {
		n = l
	}
	next, a, e := take(b, n)
	if e != api.OK {
		return b, 0, 0
	}
	return next, a, n
}

func wantTake(t *testing.T, b api.Bump, n int, next api.Bump, a uint64, e api.Errno) {
	t.Helper()
	if got, at, f := bump.Take(b, n); got != next || at != a || f != e {
		t.Fatalf("Take(%+v, %d): got %+v, %#x, %d, want %+v, %#x, %d", b, n, got, at, f, next, a, e)
	}
}

func wantMost(t *testing.T, b api.Bump, n int, next api.Bump, a uint64, k int) {
	t.Helper()
	if got, at, m := bump.Most(b, n); got != next || at != a || m != k {
		t.Fatalf("Most(%+v, %d): got %+v, %#x, %d, want %+v, %#x, %d", b, n, got, at, m, next, a, k)
	}
}

// P7.1: a beginning, of spaces and words at the edges.
func TestNew(t *testing.T) {
	for _, x := range []struct {
		space, words int
		want         api.Bump
	}{
		{0, 10, api.Bump{Space: 0, At: 0, Limit: 10}},
		{1, 10, api.Bump{Space: 1, At: 0, Limit: 10}},
		{-1, 10, api.Bump{Space: 0, At: 0, Limit: 10}},
		{2, 10, api.Bump{Space: 0, At: 0, Limit: 10}},
		{1, -1, api.Bump{Space: 1, At: 0, Limit: 0}},
		{1, 0, api.Bump{Space: 1, At: 0, Limit: 0}},
		{1, 1, api.Bump{Space: 1, At: 0, Limit: 1}},
		{0, 4096, api.Bump{Space: 0, At: 0, Limit: 4096}},
		{1, 4096, api.Bump{Space: 1, At: 0, Limit: 4096}},
		{1, 4097, api.Bump{Space: 1, At: 0, Limit: 4097}}, // not right, but that is what was asked for
		{2, -1, api.Bump{}},
		{math.MaxInt, math.MinInt, api.Bump{}},
		{math.MinInt, math.MaxInt, api.Bump{Space: 0, At: 0, Limit: math.MaxInt}},
		{1<<32 + 1, 16, api.Bump{Space: 0, At: 0, Limit: 16}},
		{1, 1<<32 + 16, api.Bump{Space: 1, At: 0, Limit: 1<<32 + 16}},
	} {
		if got := bump.New(x.space, x.words); got != x.want {
			t.Errorf("New(%d, %d): got %+v, want %+v", x.space, x.words, got, x.want)
		}
	}
}

// P7.1: all spaces and words of the edges, and far outside; one of at most 4096 words is right, and all of it is left.
func TestNewMeasured(t *testing.T) {
	for _, space := range spaces {
		for _, words := range limits {
			var want api.Bump
			if space == 1 {
				want.Space = 1
			}
			if words > 0 {
				want.Limit = words
			}
			got := bump.New(space, words)
			if got != want {
				t.Fatalf("New(%d, %d): got %+v, want %+v", space, words, got, want)
			}
			if is := bump.Right(got); is != (words <= 4096) {
				t.Fatalf("Right(%+v): got %v", got, is)
			}
			if n := bump.Left(got); words <= 4096 && n != want.Limit || words > 4096 && n != 0 {
				t.Fatalf("Left(%+v): got %d", got, n)
			}
		}
	}
}

// P7.1: what is right, each thing that isn't alone, and how many words are left.
func TestRightAndLeft(t *testing.T) {
	for _, x := range []struct {
		b    api.Bump
		is   bool
		left int
	}{
		{api.Bump{}, true, 0},
		{api.Bump{Space: 1}, true, 0},
		{api.Bump{Space: -1}, false, 0},
		{api.Bump{Space: 2}, false, 0},
		{api.Bump{Space: -1, Limit: 10}, false, 0},
		{api.Bump{Space: 2, At: 4, Limit: 10}, false, 0},
		{api.Bump{Space: 0, At: -1, Limit: 10}, false, 0},
		{api.Bump{Space: 0, At: 0, Limit: 10}, true, 10},
		{api.Bump{Space: 0, At: 4, Limit: 10}, true, 6},
		{api.Bump{Space: 1, At: 9, Limit: 10}, true, 1},
		{api.Bump{Space: 1, At: 10, Limit: 10}, true, 0},
		{api.Bump{Space: 1, At: 11, Limit: 10}, false, 0},
		{api.Bump{Space: 1, At: 0, Limit: -1}, false, 0},
		{api.Bump{Space: 1, At: -1, Limit: -1}, false, 0},
		{api.Bump{Space: 1, At: -2, Limit: -1}, false, 0},
		{api.Bump{Space: 1, At: -1, Limit: 0}, false, 0},
		{api.Bump{Space: 1, At: 1, Limit: 0}, false, 0},
		{api.Bump{Space: 0, At: 0, Limit: 4096}, true, 4096},
		{api.Bump{Space: 1, At: 1, Limit: 4096}, true, 4095},
		{api.Bump{Space: 1, At: 4095, Limit: 4096}, true, 1},
		{api.Bump{Space: 1, At: 4096, Limit: 4096}, true, 0},
		{api.Bump{Space: 1, At: 4097, Limit: 4096}, false, 0},
		{api.Bump{Space: 1, At: 0, Limit: 4097}, false, 0},
		{api.Bump{Space: 1, At: 4096, Limit: 4097}, false, 0},
		{api.Bump{Space: 1, At: 4097, Limit: 4097}, false, 0},
		{api.Bump{Space: 1, At: math.MinInt, Limit: 1}, false, 0},
		{api.Bump{Space: 1, At: math.MinInt, Limit: math.MinInt}, false, 0},
		{api.Bump{Space: 0, At: math.MaxInt, Limit: 1}, false, 0},
		{api.Bump{Space: 0, At: math.MaxInt, Limit: math.MinInt}, false, 0},
		{api.Bump{Space: 0, At: math.MaxInt - 5, Limit: math.MaxInt}, false, 0},
		{api.Bump{Space: 0, At: 1 << 32, Limit: 1<<32 + 10}, false, 0},
		{api.Bump{Space: 1 << 32, At: 0, Limit: 10}, false, 0},
	} {
		if got := bump.Right(x.b); got != x.is {
			t.Errorf("Right(%+v): got %v", x.b, got)
		}
		if got := bump.Left(x.b); got != x.left {
			t.Errorf("Left(%+v): got %d, want %d", x.b, got, x.left)
		}
	}
}

// P7.1: all spaces, places and limits of the edges together.
func TestRightAndLeftMeasured(t *testing.T) {
	for b := range bumps {
		if got := bump.Right(b); got != right(b) {
			t.Fatalf("Right(%+v): got %v", b, got)
		}
		if got, want := bump.Left(b), left(b); got != want {
			t.Fatalf("Left(%+v): got %d, want %d", b, got, want)
		}
	}
}

// P7.2: the example: New(1, 10), Take of 4, Take of 7: the second one is ErrFull.
func TestExample(t *testing.T) {
	b := bump.New(1, 10)
	b, a, e := bump.Take(b, 4)
	if b != (api.Bump{Space: 1, At: 4, Limit: 10}) || a != 0x2_00000000 || e != 0 {
		t.Errorf("Take of 4: got %+v, %#x, %d", b, a, e)
	}
	k, a, e := bump.Take(b, 7)
	if k != b || a != 0 || e != 4 {
		t.Errorf("Take of 7: got %+v, %#x, %d", k, a, e)
	}
	k, a, n := bump.Most(b, 7)
	if k != (api.Bump{Space: 1, At: 10, Limit: 10}) || a != 0x2_00000004 || n != 6 {
		t.Errorf("Most of 7: got %+v, %#x, %d", k, a, n)
	}
}

// P7.2: none, one, all that is left, one less and one more.
func TestTake(t *testing.T) {
	b := api.Bump{Space: 0, At: 3, Limit: 10}
	at := func(n int) api.Bump { return api.Bump{Space: 0, At: n, Limit: 10} }
	wantTake(t, b, math.MinInt, b, 0, api.ErrArg)
	wantTake(t, b, -1, b, 0, api.ErrArg)
	wantTake(t, b, 0, b, 0, api.ErrArg)
	wantTake(t, b, 1, at(4), 0x1_00000003, api.OK)
	wantTake(t, b, 6, at(9), 0x1_00000003, api.OK)
	wantTake(t, b, 7, at(10), 0x1_00000003, api.OK)
	wantTake(t, b, 8, b, 0, api.ErrFull)
	wantTake(t, b, 10, b, 0, api.ErrFull)
	wantTake(t, b, math.MaxInt, b, 0, api.ErrFull)

	all := api.Bump{Space: 1, At: 4096, Limit: 4096}
	wantTake(t, bump.New(1, 4096), 4096, all, 0x2_00000000, api.OK)
	wantTake(t, bump.New(1, 4096), 4097, bump.New(1, 4096), 0, api.ErrFull)
	wantTake(t, api.Bump{Space: 1, At: 4095, Limit: 4096}, 1, all, 0x2_00000fff, api.OK)
	wantTake(t, all, 1, all, 0, api.ErrFull)
	wantTake(t, all, 0, all, 0, api.ErrArg)
	wantTake(t, bump.New(0, 0), 1, bump.New(0, 0), 0, api.ErrFull)
}

// P7.2: one that isn't right is refused ahead of all else, and comes out as it was (R2).
func TestTakeNotRight(t *testing.T) {
	for _, b := range []api.Bump{
		{Space: -1, At: 0, Limit: 10},
		{Space: 2, At: 0, Limit: 10},
		{Space: 0, At: -1, Limit: 10},
		{Space: 1, At: 11, Limit: 10},
		{Space: 1, At: 0, Limit: 4097},
		{Space: 1, At: 0, Limit: -1},
		{Space: 0, At: math.MaxInt, Limit: math.MaxInt},
		{Space: 0, At: math.MinInt, Limit: math.MaxInt},
		{Space: 1, At: math.MaxInt, Limit: math.MinInt},
		bump.New(1, 4097),
	} {
		for _, n := range near(b) {
			wantTake(t, b, n, b, 0, api.ErrArg)
			wantMost(t, b, n, b, 0, 0)
		}
	}
}

// P7.2: where more, as many, fewer, and no words are left; and what is refused.
func TestMost(t *testing.T) {
	b := api.Bump{Space: 1, At: 3, Limit: 10}
	at := func(n int) api.Bump { return api.Bump{Space: 1, At: n, Limit: 10} }
	wantMost(t, b, 1, at(4), 0x2_00000003, 1)
	wantMost(t, b, 6, at(9), 0x2_00000003, 6)
	wantMost(t, b, 7, at(10), 0x2_00000003, 7)
	wantMost(t, b, 8, at(10), 0x2_00000003, 7)
	wantMost(t, b, 4097, at(10), 0x2_00000003, 7)
	wantMost(t, b, math.MaxInt, at(10), 0x2_00000003, 7)
	wantMost(t, b, 0, b, 0, 0)
	wantMost(t, b, -1, b, 0, 0)
	wantMost(t, b, -7, b, 0, 0)
	wantMost(t, b, math.MinInt, b, 0, 0)
	wantMost(t, at(9), 2, at(10), 0x2_00000009, 1)
	for _, n := range counts {
		wantMost(t, at(10), n, at(10), 0, 0)
		wantMost(t, api.Bump{}, n, api.Bump{}, 0, 0)
	}
	all := api.Bump{Space: 0, At: 4096, Limit: 4096}
	wantMost(t, bump.New(0, 4096), 4095, api.Bump{Space: 0, At: 4095, Limit: 4096}, 0x1_00000000, 4095)
	wantMost(t, bump.New(0, 4096), 4096, all, 0x1_00000000, 4096)
	wantMost(t, bump.New(0, 4096), 4097, all, 0x1_00000000, 4096)
}

// P7.2, R5: all spaces, places, limits and numbers of words of the edges together, held against whole numbers of any size.
func TestTakeAndMostMeasured(t *testing.T) {
	for b := range bumps {
		for _, n := range near(b) {
			next, a, e := take(b, n)
			wantTake(t, b, n, next, a, e)
			next, a, k := most(b, n)
			wantMost(t, b, n, next, a, k)
		}
	}
}

// P7.2: every place of every short space, and every number of words.
func TestTakeAndMostOfShortSpaces(t *testing.T) {
	for limit := range 20 {
		for at := -2; at < limit+3; at++ {
			for space := -1; space < 3; space++ {
				b := api.Bump{Space: space, At: at, Limit: limit}
				for n := -2; n < limit+4; n++ {
					next, a, e := take(b, n)
					wantTake(t, b, n, next, a, e)
					next, a, k := most(b, n)
					wantMost(t, b, n, next, a, k)
				}
			}
		}
	}
}

// piece is what was taken: where it begins, how many words there are.
type piece struct {
	a uint64
	n int
}

// taken takes again and again, as a row of numbers tells, by Take or by Most, till nothing is left; each time as many are left less as were taken.
func taken(t *testing.T, b api.Bump, seed uint64, byMost bool) []piece {
	t.Helper()
	var l []piece
	for round := 0; bump.Left(b) > 0; round++ {
		seed = seed*6364136223846793005 + 1442695040888963407
		want := 1 + int(seed>>33%uint64(1+round%19)) // small and great ones, one at first
		before := bump.Left(b)
		next, a, e := bump.Take(b, want)
		n := want
		if byMost {
			next, a, n = bump.Most(b, want)
		} else if e != api.OK {
			n = 0
		}
		if n == 0 && want <= before || byMost && n != min(want, before) {
			t.Fatalf("of %+v, %d words: got %d", b, want, n)
		}
		if got := bump.Left(next); got != before-n || !bump.Right(next) || next.Space != b.Space || next.Limit != b.Limit {
			t.Fatalf("%d words of %+v: got %+v, of which %d are left", n, b, next, got)
		}
		if b = next; n > 0 {
			l = append(l, piece{a, n})
		}
	}
	if _, _, e := bump.Take(b, 1); e != api.ErrFull {
		t.Fatalf("Take of %+v: got %d", b, e)
	}
	return l
}

// P7.3: words that are taken stand side by side, from the beginning up to the limit; they are as many as there were.
func TestSideBySide(t *testing.T) {
	for _, words := range []int{0, 1, 2, 10, 16, 17, 100, 4095, 4096} {
		for i := range 40 {
			space, from := i&1, words*(i>>1)/40
			b := api.Bump{Space: space, At: from, Limit: words}
			at := from
			for _, p := range taken(t, b, uint64(i), i&2 == 0) {
				if p.a != address(space, at) {
					t.Fatalf("%d words at %#x: they are taken at %#x", p.n, address(space, at), p.a)
				}
				at += p.n
			}
			if at != words {
				t.Fatalf("of %d words: %d are taken", words, at)
			}
		}
	}
}

// P7.3: words one by one: each place is taken once.
func TestOneByOne(t *testing.T) {
	for space := range 2 {
		b := bump.New(space, 4096)
		for at := range 4096 {
			next := api.Bump{Space: space, At: at + 1, Limit: 4096}
			wantTake(t, b, 1, next, address(space, at), api.OK)
			wantMost(t, b, 1, next, address(space, at), 1)
			if got := bump.Left(next); got != 4095-at {
				t.Fatalf("Left(%+v): got %d", next, got)
			}
			b = next
		}
		wantTake(t, b, 1, b, 0, api.ErrFull)
		wantMost(t, b, 1, b, 0, 0)
	}
}
