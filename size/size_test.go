package size_test

import (
	"math"
	"math/big"
	"testing"

	"dovecote/api"
	"dovecote/size"
)

// far are numbers at the edges of what an int holds, and far outside of all that is asked for.
var far = []int{math.MinInt, math.MinInt + 1, -(1 << 62), -(1 << 32), -4096, -2, -1, 0, 1, 2, 3, 15, 16, 17, 18, 4095, 4096, 4097, 1<<31 - 1, 1 << 31, 1<<32 - 2, 1<<32 - 1, 1 << 32, 1<<32 + 1, 3 << 32, 1<<62 - 1, 1 << 62, 1<<62 + 1, math.MaxInt - 17, math.MaxInt - 2, math.MaxInt - 1, math.MaxInt}

// mixed are numbers all over, the same ones each time, of all lengths.
func mixed(n int) []int {
	var l []int
	x := uint64(7)
	for i := range n {
		x = x*6364136223846793005 + 1442695040888963407
		l = append(l, int(x)>>(i%64))
	}
	return l
}

// whole is a sum of any size: nothing goes round in it.
func whole(a, b int) *big.Int { return new(big.Int).Add(big.NewInt(int64(a)), big.NewInt(int64(b))) }

func wantAdd(t *testing.T, a, b, sum int, ok bool) {
	t.Helper()
	if got, k := size.Add(a, b); got != sum || k != ok {
		t.Errorf("Add(%d, %d): got %d, %v, want %d, %v", a, b, got, k, sum, ok)
	}
}

// P2.1: sums, up to 2^63 - 1 and just beyond it.
func TestAdd(t *testing.T) {
	const most = math.MaxInt64
	wantAdd(t, 0, 0, 0, true)
	wantAdd(t, 3, 4, 7, true)
	wantAdd(t, most, 0, most, true)
	wantAdd(t, 0, most, most, true)
	wantAdd(t, most-1, 1, most, true)
	wantAdd(t, 1, most-1, most, true)
	wantAdd(t, 1<<62, 1<<62-1, most, true)
	wantAdd(t, most, 1, 0, false)
	wantAdd(t, 1, most, 0, false)
	wantAdd(t, 1<<62, 1<<62, 0, false)
	wantAdd(t, most-1, 2, 0, false)
	wantAdd(t, most, most, 0, false)
}

// P2.1: what is below 0 has no sum, even if the sum were 0 or above.
func TestAddBelow(t *testing.T) {
	wantAdd(t, -1, 0, 0, false)
	wantAdd(t, 0, -1, 0, false)
	wantAdd(t, -1, 5, 0, false)
	wantAdd(t, 5, -1, 0, false)
	wantAdd(t, -1, -1, 0, false)
	wantAdd(t, math.MaxInt, -1, 0, false)
	wantAdd(t, -1, math.MaxInt, 0, false)
	wantAdd(t, math.MinInt, math.MaxInt, 0, false)
	wantAdd(t, math.MaxInt, math.MinInt, 0, false)
	wantAdd(t, math.MinInt, math.MinInt, 0, false)
}

// P2.1: all pairs of numbers at edges and all over, held against sums of any size.
func TestAddMeasured(t *testing.T) {
	l := append(mixed(200), far...)
	for _, a := range l {
		for _, b := range l {
			if s := whole(a, b); a >= 0 && b >= 0 && s.IsInt64() {
				wantAdd(t, a, b, int(s.Int64()), true)
			} else {
				wantAdd(t, a, b, 0, false)
			}
		}
	}
}

// P2.1: words of an object, by its fields: each number that may be, and those that may not.
func TestObject(t *testing.T) {
	want := [...]int{2, 3, 4, 5, 6, 7, 8, 9, 10, 11, 12, 13, 14, 15, 16, 17, 18}
	for fields, words := range want {
		if n, e := size.Object(fields); n != words || e != api.OK {
			t.Errorf("Object(%d): got %d, %d, want %d, OK", fields, n, e, words)
		}
	}
	for _, fields := range append(mixed(200), far...) {
		if fields >= 0 && fields <= 16 {
			continue
		}
		e := api.ErrBig
		if fields < 0 {
			e = api.ErrArg
		}
		if n, got := size.Object(fields); n != 0 || got != e {
			t.Errorf("Object(%d): got %d, %d, want 0, %d", fields, n, got, e)
		}
	}
}

// P2.1: what fits to the last word, and a word more.
func TestFits(t *testing.T) {
	for _, x := range []struct {
		at, n, words int
		want         bool
	}{
		{0, 0, 0, true},
		{0, 1, 0, false},
		{1, 0, 0, false},
		{0, 10, 10, true},
		{0, 11, 10, false},
		{10, 0, 10, true},
		{11, 0, 10, false},
		{4, 6, 10, true},
		{4, 7, 10, false},
		{5, 6, 10, false},
		{4, 3, 10, true},
		{-1, 5, 10, false},
		{5, -1, 10, false},
		{20, -15, 10, false},
		{-15, 20, 10, false},
		{-1, -1, 10, false},
		{0, 0, -1, false},
		{-1, 0, -1, false},
		{-3, 1, -1, false},
		{math.MinInt, math.MinInt, 10, false},
		{math.MinInt, 0, math.MinInt, false},
		{math.MaxInt, 1, 10, false},
		{1, math.MaxInt, 10, false},
		{math.MaxInt, 1, math.MaxInt, false},
		{math.MaxInt, math.MaxInt, math.MaxInt, false},
		{math.MaxInt - 1, 1, math.MaxInt, true},
		{math.MaxInt, 0, math.MaxInt, true},
		{0, math.MaxInt, math.MaxInt, true},
		{0, math.MaxInt, math.MaxInt - 1, false},
		{0, 0, math.MinInt, false},
	} {
		if got := size.Fits(x.at, x.n, x.words); got != x.want {
			t.Errorf("Fits(%d, %d, %d): got %v", x.at, x.n, x.words, got)
		}
	}
}

// P2.1: every at, n and words near 0, and at the edges, held against sums of any size (R5: nothing goes round in what is compared).
func TestFitsMeasured(t *testing.T) {
	l := append(mixed(30), far...)
	for n := -6; n < 14; n++ {
		l = append(l, n)
	}
	for _, at := range l {
		for _, n := range l {
			end := whole(at, n)
			for _, words := range l {
				want := at >= 0 && n >= 0 && end.Cmp(big.NewInt(int64(words))) <= 0
				if got := size.Fits(at, n, words); got != want {
					t.Fatalf("Fits(%d, %d, %d): got %v", at, n, words, got)
				}
			}
		}
	}
}

// P2.2: addresses, word for word.
func TestAddr(t *testing.T) {
	for _, x := range []struct {
		space, at int
		want      uint64
	}{
		{0, 5, 0x100000005},
		{0, 0, 0x100000000},
		{1, 0, 0x200000000},
		{1, 5, 0x200000005},
		{0, 4095, 0x100000fff},
		{0, 1<<32 - 1, 0x1ffffffff},
		{1, 1<<32 - 1, 0x2ffffffff},
		{0, 1 << 31, 0x180000000},
		{0, 1 << 32, 0},
		{1, 1 << 32, 0},
		{0, -1, 0},
		{1, -1, 0},
		{-1, 0, 0},
		{-1, 5, 0},
		{2, 0, 0},
		{2, 5, 0},
		{-1, -1, 0},
		{2, 1 << 32, 0},
		{0, math.MaxInt, 0},
		{1, math.MinInt, 0},
		{math.MaxInt, 0, 0},
		{math.MinInt, 0, 0},
		{1 << 32, 3, 0},
		{-(1 << 32), 3, 0},
	} {
		if got := size.Addr(x.space, x.at); got != x.want {
			t.Errorf("Addr(%d, %d): got %#x, want %#x", x.space, x.at, got, x.want)
		}
	}
}

// P2.2: at all spaces and places of the edges and all over.
func TestAddrMeasured(t *testing.T) {
	l := append(mixed(200), far...)
	for _, space := range l {
		for _, at := range l {
			want := uint64(0)
			if (space == 0 || space == 1) && at >= 0 && at < 1<<32 {
				want = uint64(1+space)*4294967296 + uint64(at)
			}
			if got := size.Addr(space, at); got != want {
				t.Fatalf("Addr(%d, %d): got %#x, want %#x", space, at, got, want)
			}
		}
	}
}

// P2.2: where addresses lead, and words that are none.
func TestWhere(t *testing.T) {
	for _, x := range []struct {
		a         uint64
		space, at int
		ok        bool
	}{
		{0, 0, 0, false},
		{1, 0, 0, false},
		{5, 0, 0, false},
		{0xfffffffe, 0, 0, false},
		{0xffffffff, 0, 0, false},
		{0x100000000, 0, 0, true},
		{0x100000005, 0, 5, true},
		{0x180000000, 0, 1 << 31, true},
		{0x1ffffffff, 0, 1<<32 - 1, true},
		{0x200000000, 1, 0, true},
		{0x200000005, 1, 5, true},
		{0x2ffffffff, 1, 1<<32 - 1, true},
		{0x300000000, 0, 0, false},
		{0x300000005, 0, 0, false},
		{0x3ffffffff, 0, 0, false},
		{0x400000000, 0, 0, false},
		{0x500000001, 0, 0, false},
		{0x10100000005, 0, 0, false},
		{1 << 63, 0, 0, false},
		{1<<63 + 1<<32 + 5, 0, 0, false},
		{1<<63 + 1<<33 + 5, 0, 0, false},
		{1<<63 - 1, 0, 0, false},
		{math.MaxUint64, 0, 0, false},
		{math.MaxUint64 - 1<<32, 0, 0, false},
	} {
		if space, at, ok := size.Where(x.a); space != x.space || at != x.at || ok != x.ok {
			t.Errorf("Where(%#x): got %d, %d, %v", x.a, space, at, ok)
		}
	}
}

// P2.2: words all over, held against division by whole numbers.
func TestWhereMeasured(t *testing.T) {
	for _, n := range append(mixed(5000), far...) {
		a := uint64(n)
		space, at, ok := size.Where(a)
		switch a / 4294967296 {
		case 1, 2:
			if !ok || uint64(space) != a/4294967296-1 || uint64(at) != a%4294967296 {
				t.Fatalf("Where(%#x): got %d, %d, %v", a, space, at, ok)
			}
		default:
			if space != 0 || at != 0 || ok {
				t.Fatalf("Where(%#x): got %d, %d, %v, want nothing", a, space, at, ok)
			}
		}
	}
}

// P2.2: the other space; of what is no space it is 0.
func TestOther(t *testing.T) {
	for _, space := range append(mixed(200), far...) {
		want := 0
		if space == 0 {
			want = 1
		}
		if got := size.Other(space); got != want {
			t.Errorf("Other(%d): got %d, want %d", space, got, want)
		}
	}
}

// P2.3: from a place to its address and back, and the other way round; no two places have one address.
func TestAddressesAndPlaces(t *testing.T) {
	type place struct{ space, at int }
	places := []int{}
	for at := range 5000 {
		places = append(places, at, 1<<31-2500+at, 1<<32-1-at)
	}
	for _, n := range mixed(2000) {
		places = append(places, int(uint32(n)))
	}
	owner := map[uint64]place{}
	for _, at := range places {
		for space := range 2 {
			p := place{space, at}
			a := size.Addr(space, at)
			if q, known := owner[a]; known && q != p {
				t.Fatalf("%#x is the address of %v and %v", a, q, p)
			}
			owner[a] = p
			if s, w, ok := size.Where(a); !ok || s != space || w != at {
				t.Fatalf("Where(Addr(%d, %d)): got %d, %d, %v", space, at, s, w, ok)
			}
		}
	}
	for _, n := range append(mixed(3000), far...) {
		for a := uint64(n) % (1 << 35); a < 1<<36; a += 1 << 32 {
			if space, at, ok := size.Where(a); ok && size.Addr(space, at) != a {
				t.Fatalf("Addr(Where(%#x)): got %#x", a, size.Addr(space, at))
			}
		}
	}
}

// P2.3: what fits ends within, and what ends within fits.
func TestWhatFitsEndsWithin(t *testing.T) {
	l := append(mixed(40), far...)
	for _, at := range l {
		for _, n := range l {
			end, ok := size.Add(at, n)
			for _, words := range l {
				if fits := size.Fits(at, n, words); fits != (ok && end <= words) {
					t.Fatalf("Fits(%d, %d, %d): %v, but the end is %d, %v", at, n, words, fits, end, ok)
				}
			}
		}
	}
}
