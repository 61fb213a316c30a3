package num_test

import (
	"math"
	"testing"

	"dovecote/num"
)

// otherBits are the bits that don't count in a word's number.
const otherBits = 0xffffffff00000000

// edges are parts at which signs and carries change.
var edges = []int{-32768, -32767, -257, -256, -2, -1, 0, 1, 2, 181, 182, 255, 256, 16384, 32766, 32767}

// round is the measure: division by whole numbers, no bits and no conversions.
func round(n int) int {
	n %= 65536
	if n < -32768 {
		n += 65536
	}
	if n > 32767 {
		n -= 65536
	}
	return n
}

// pair is the measure of a word: its parts as whole numbers.
type pair struct{ re, im int }

func (p pair) word() uint64 { return num.Pack(p.re, p.im) }

func plus(a, b pair) pair { return pair{round(a.re + b.re), round(a.im + b.im)} }

func times(a, b pair) pair {
	return pair{round(a.re*b.re - a.im*b.im), round(a.re*b.im + a.im*b.re)}
}

func mirrored(a pair) pair { return pair{a.re, round(-a.im)} }

func power(a pair, n int) pair {
	p := pair{1, 0}
	for range n {
		p = times(p, a)
	}
	return p
}

// edgePairs are all pairs of edges.
func edgePairs() []pair {
	var l []pair
	for _, re := range edges {
		for _, im := range edges {
			l = append(l, pair{re, im})
		}
	}
	return l
}

// mixed are pairs all over, the same ones each time.
func mixed(n int) []pair {
	var l []pair
	x := uint64(1)
	next := func() int {
		x = x*6364136223846793005 + 1442695040888963407
		return int(x>>48) - 32768
	}
	for range n {
		l = append(l, pair{next(), next()})
	}
	return l
}

func wantWord(t *testing.T, what string, got, want uint64) {
	t.Helper()
	if got != want {
		t.Errorf("%s: got %#x, want %#x", what, got, want)
	}
}

func wantPair(t *testing.T, what string, args []any, got uint64, want pair) {
	t.Helper()
	if got&otherBits != 0 {
		t.Fatalf("%s %v: other bits are set: %#x", what, args, got)
	}
	if re, im := num.Parts(got); re != want.re || im != want.im {
		t.Fatalf("%s %v: got (%d, %d), want %v", what, args, re, im, want)
	}
}

// P1.1: Pack, word for word.
func TestPackWords(t *testing.T) {
	for _, x := range []struct {
		re, im int
		want   uint64
	}{
		{0, 0, 0},
		{1, 2, 0x00010002},
		{-1, 0, 0xffff0000},
		{0, -1, 0x0000ffff},
		{1, -1, 0x0001ffff},
		{32767, -32768, 0x7fff8000},
		{-32768, 32767, 0x80007fff},
		{32768, -32769, 0x80007fff},
		{-32769, 32768, 0x7fff8000},
		{65535, 65536, 0xffff0000},
		{-65536, 65537, 0x00000001},
		{-65535, -65537, 0x0001ffff},
		{1 << 16, 1 << 32, 0},
		{1<<40 + 5, -(1 << 50) - 6, 0x0005fffa},
		{1<<53 + 1, -(1 << 53) - 1, 0x0001ffff},
		{math.MaxInt, math.MinInt, 0xffff0000},
		{math.MinInt, math.MaxInt, 0x0000ffff},
		{math.MinInt + 1, math.MaxInt - 1, 0x0001fffe},
	} {
		if got := num.Pack(x.re, x.im); got != x.want {
			t.Errorf("Pack(%d, %d): got %#x, want %#x", x.re, x.im, got, x.want)
		}
	}
}

// P1.1: each part goes round by itself, also far outside of 16 bits.
func TestPackGoesRound(t *testing.T) {
	far := []int{0, 65536, -65536, 1 << 31, -(1 << 31), 1 << 32, 3 << 47, -(5 << 47), 1 << 62, -(1 << 62)}
	for _, p := range edgePairs() {
		for _, d := range far {
			for _, e := range far {
				wantPair(t, "Pack", []any{p, d, e}, num.Pack(p.re+d, p.im+e), p)
			}
		}
	}
}

// P1.1: every part there is comes back, on either side.
func TestPartsOfEveryPart(t *testing.T) {
	for n := -40000; n <= 40000; n++ {
		want := round(n)
		if re, im := num.Parts(num.Pack(n, 7)); re != want || im != 7 {
			t.Fatalf("Parts(Pack(%d, 7)): got (%d, %d)", n, re, im)
		}
		if re, im := num.Parts(num.Pack(-8, n)); re != -8 || im != want {
			t.Fatalf("Parts(Pack(-8, %d)): got (%d, %d)", n, re, im)
		}
	}
}

// P1.1: Parts and Norm of words; other bits don't count.
func TestPartsAndNormOfWords(t *testing.T) {
	for _, x := range []struct {
		w    uint64
		want pair
	}{
		{0, pair{0, 0}},
		{7, pair{0, 7}},
		{0x80007fff, pair{-32768, 32767}},
		{0x7fff8000, pair{32767, -32768}},
		{0x80008000, pair{-32768, -32768}},
		{0xffffffff, pair{-1, -1}},
		{0x00010000, pair{1, 0}},
		{0x0000ffff, pair{0, -1}},
		{0x12345678, pair{0x1234, 0x5678}},
	} {
		for _, other := range []uint64{0, 1 << 32, 1 << 40, 1 << 63, 0x8000ffff00000000, otherBits} {
			w := x.w | other
			if re, im := num.Parts(w); re != x.want.re || im != x.want.im {
				t.Errorf("Parts(%#x): got (%d, %d), want %v", w, re, im, x.want)
			}
			if got := num.Norm(w); got != x.w {
				t.Errorf("Norm(%#x): got %#x, want %#x", w, got, x.w)
			}
		}
	}
}

// P1.2: ordinary numbers, and the chapter's example.
func TestReckoningWords(t *testing.T) {
	p := num.Pack
	wantWord(t, "sum", num.Add(p(3, 4), p(-5, 1)), p(-2, 5))
	wantWord(t, "sum above", num.Add(p(32767, 32767), p(1, 2)), p(-32768, -32767))
	wantWord(t, "sum below", num.Add(p(-32768, -32768), p(-1, -32768)), p(32767, 0))
	wantWord(t, "i times i", num.Mul(p(0, 1), p(0, 1)), p(-1, 0))
	wantWord(t, "product", num.Mul(p(3, 4), p(1, -2)), p(11, -2))
	wantWord(t, "product at both ends", num.Mul(p(-32768, 32767), p(32767, -32768)), p(0, 1))
	wantWord(t, "product of the least", num.Mul(p(-32768, -32768), p(-32768, -32768)), p(0, 0))
	wantWord(t, "product of the greatest", num.Mul(p(32767, 32767), p(32767, 32767)), p(0, 2))
	wantWord(t, "conjugate", num.Conj(p(3, 4)), p(3, -4))
	wantWord(t, "conjugate of the least", num.Conj(p(-32768, -32768)), p(-32768, -32768))
	wantWord(t, "conjugate of a real one", num.Conj(p(-9, 0)), p(-9, 0))
}

// P1.2: Add, Mul and Conj at all edges and all over, held against whole numbers.
func TestReckoningMeasured(t *testing.T) {
	l := append(edgePairs(), mixed(300)...)
	for _, a := range l {
		wantPair(t, "Conj", []any{a}, num.Conj(a.word()), mirrored(a))
		for _, b := range l {
			wantPair(t, "Add", []any{a, b}, num.Add(a.word(), b.word()), plus(a, b))
			wantPair(t, "Mul", []any{a, b}, num.Mul(a.word(), b.word()), times(a, b))
		}
	}
}

// P1.2: other bits of what is handed in don't count, and none come out.
func TestReckoningWithOtherBits(t *testing.T) {
	l := mixed(60)
	for i, a := range l {
		b := l[len(l)-1-i]
		v, w := a.word()|otherBits, b.word()|1<<32|1<<63
		wantPair(t, "Add", []any{a, b}, num.Add(v, w), plus(a, b))
		wantPair(t, "Mul", []any{a, b}, num.Mul(v, w), times(a, b))
		wantPair(t, "Conj", []any{a}, num.Conj(v), mirrored(a))
		wantPair(t, "Pow to 0", []any{a}, num.Pow(v, 0), pair{1, 0})
		wantPair(t, "Pow to 1", []any{a}, num.Pow(v, 1), a)
		wantPair(t, "Pow to 5", []any{a}, num.Pow(v, 5), power(a, 5))
	}
}

// P1.2: powers of ordinary exponents.
func TestPow(t *testing.T) {
	p := num.Pack
	wantWord(t, "i to 3", num.Pow(p(0, 1), 3), p(0, -1))
	wantWord(t, "i to 64", num.Pow(p(0, 1), 64), p(1, 0))
	wantWord(t, "2 to 15", num.Pow(p(2, 0), 15), p(-32768, 0))
	wantWord(t, "2 to 16", num.Pow(p(2, 0), 16), p(0, 0))
	wantWord(t, "0 to 1", num.Pow(p(0, 0), 1), p(0, 0))
	wantWord(t, "3 to 64", num.Pow(p(3, 0), 64), p(-17151, 0))
	for _, a := range append(edgePairs(), mixed(100)...) {
		for n := range 65 {
			wantPair(t, "Pow", []any{a, n}, num.Pow(a.word(), n), power(a, n))
		}
	}
}

// P1.2: exponents below 1 are as 0, those above 64 as 64.
func TestPowOutside(t *testing.T) {
	for _, a := range append(edgePairs(), mixed(100)...) {
		for _, n := range []int{0, -1, -2, -64, -65, math.MinInt + 1, math.MinInt} {
			wantPair(t, "Pow", []any{a, n}, num.Pow(a.word(), n), pair{1, 0})
		}
		last := power(a, 64)
		for _, n := range []int{64, 65, 66, 128, 1 << 32, math.MaxInt - 1, math.MaxInt} {
			wantPair(t, "Pow", []any{a, n}, num.Pow(a.word(), n), last)
		}
	}
}

// P1.3: no order matters; what is done to a sum is the sum of it.
func TestLaws(t *testing.T) {
	l := append(edgePairs()[:40], mixed(60)...)
	for i, p := range l {
		for j, q := range l {
			a, b, c := p.word(), q.word(), l[(i+3*j)%len(l)].word()
			wantWord(t, "a + b", num.Add(a, b), num.Add(b, a))
			wantWord(t, "a b", num.Mul(a, b), num.Mul(b, a))
			wantWord(t, "(a + b) + c", num.Add(num.Add(a, b), c), num.Add(a, num.Add(b, c)))
			wantWord(t, "(a b) c", num.Mul(num.Mul(a, b), c), num.Mul(a, num.Mul(b, c)))
			wantWord(t, "(a + b) c", num.Mul(num.Add(a, b), c), num.Add(num.Mul(a, c), num.Mul(b, c)))
			wantWord(t, "conjugate of a + b", num.Conj(num.Add(a, b)), num.Add(num.Conj(a), num.Conj(b)))
			wantWord(t, "conjugate of a b", num.Conj(num.Mul(a, b)), num.Mul(num.Conj(a), num.Conj(b)))
			wantWord(t, "power of a b", num.Pow(num.Mul(a, b), 7), num.Mul(num.Pow(a, 7), num.Pow(b, 7)))
		}
	}
}

// P1.3: a number times its conjugate has no imaginary part; twice the conjugate is the number.
func TestConjugates(t *testing.T) {
	for _, p := range append(edgePairs(), mixed(1000)...) {
		a := p.word()
		want := pair{round(p.re*p.re + p.im*p.im), 0}
		wantPair(t, "a times its conjugate", []any{p}, num.Mul(a, num.Conj(a)), want)
		wantPair(t, "twice the conjugate", []any{p}, num.Conj(num.Conj(a)), p)
	}
}

// P1.3: exponents add up.
func TestPowersAddUp(t *testing.T) {
	for _, p := range mixed(60) {
		a := p.word()
		for _, x := range [][2]int{{0, 0}, {0, 5}, {1, 1}, {3, 4}, {31, 33}, {63, 1}} {
			wantWord(t, "exponents", num.Mul(num.Pow(a, x[0]), num.Pow(a, x[1])), num.Pow(a, x[0]+x[1]))
		}
	}
}
