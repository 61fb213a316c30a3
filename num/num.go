// Package num is layer 1: see shared/doc/01-num.md.
package num

// maxPower bounds the work of Pow: a greater exponent counts as this one.
const maxPower = 64

// Pack is the word of two parts.
func Pack(re, im int) uint64 {
	return uint64(uint16(re))<<16 | uint64(uint16(im))
}

// Parts are a word's parts.
func Parts(w uint64) (int, int) {
	part := func(shift uint) int { return int(int16(w >> shift)) }
	return part(16), part(0)
}

// Norm is a word without other bits.
func Norm(w uint64) uint64 { return Pack(Parts(w)) }

// Add is a sum.
func Add(a, b uint64) uint64 { return word(number(a) + number(b)) }

// Mul is a product.
func Mul(a, b uint64) uint64 { return word(number(a) * number(b)) }

// Conj is the conjugate.
func Conj(a uint64) uint64 {
	z := number(a)
	return word(complex(real(z), -imag(z)))
}

// Pow is a power.
func Pow(a uint64, n int) uint64 {
	power, left := Pack(1, 0), min(n, maxPower)
again:
	if left < 1 {
		return power
	}
	// Each product goes back into a word: floats would lose low bits of a greater one.
	power = Mul(power, a)
	left--
	goto again
}

// number is a word's number, to reckon with.
func number(w uint64) complex128 {
	re, im := Parts(w)
	return complex(float64(re), float64(im))
}

// word is the word of a number that was reckoned from at most two words: its
// parts are whole and at most 2^31 in size, so that floats hold them exactly.
func word(z complex128) uint64 { return Pack(int(real(z)), int(imag(z))) }
