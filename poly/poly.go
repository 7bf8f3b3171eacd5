// Package poly is layer 1: polynomials over two elements as words: see shared/doc/01-poly.md.
package poly

import (
	"math/bits"

	"parapet/api"
)

// Degree: the degree; -1 of nothing.
func Degree(p uint64) int { return bits.Len64(p) - 1 }

// Weight: how many terms.
func Weight(p uint64) int { return bits.OnesCount64(p) }

// Mul: the product. Two words of 32 bits, so that its degree, 62 at most, always fits.
func Mul(p, q uint32) uint64 {
	product := uint64(0)
	for i := range 32 {
		if hasTerm(uint64(q), i) {
			product ^= uint64(p) << i
		}
	}
	return product
}

// DivMod: quotient and remainder.
func DivMod(p, q uint64) (uint64, uint64, api.Errno) {
	if q == 0 {
		return 0, 0, api.ErrZero
	}
	quotient, rest := uint64(0), p
	low := Degree(q)
	// No step at all where p's degree is below q's: the range is then empty.
	for i := range Degree(p) - low + 1 {
		shift := Degree(p) - low - i
		if hasTerm(rest, low+shift) {
			quotient |= 1 << shift
			rest ^= q << shift
		}
	}
	return quotient, rest, api.OK
}

// Gcd: the greatest common divisor.
func Gcd(p, q uint64) uint64 {
	// Each remainder's degree is below that of its divisor: so many steps always do.
	for range Degree(q) + 1 {
		if q == 0 {
			break
		}
		p, q = q, remainder(p, q)
	}
	return p
}

// MulMod: the product's remainder.
func MulMod(p, q, m uint64) (uint64, api.Errno) {
	if m == 0 {
		return 0, api.ErrZero
	}
	return mulMod(p, q, m), api.OK
}

// PowMod: the remainder of x to the n.
func PowMod(n, m uint64) (uint64, api.Errno) {
	if m == 0 {
		return 0, api.ErrZero
	}
	power := remainder(1, m)
	count := bits.Len64(n)
	for i := range count {
		power = mulMod(power, power, m)
		if hasTerm(n, count-1-i) {
			power = appendBit(power, 0, m)
		}
	}
	return power, api.OK
}

// Of: the remainder of bytes as a polynomial.
func Of(b []byte, m uint64) (uint64, api.Errno) {
	if m == 0 {
		return 0, api.ErrZero
	}
	rest := uint64(0)
	for i := range len(b) {
		for j := range 8 {
			rest = appendBit(rest, uint64(b[i]>>(7-j)&1), m)
		}
	}
	return rest, api.OK
}

func hasTerm(p uint64, i int) bool { return p>>i&1 == 1 }

// remainder is for a divisor that is known not to be 0.
func remainder(p, q uint64) uint64 {
	_, rest, _ := DivMod(p, q)
	return rest
}

// mulMod takes q's terms from the highest on and reduces at each, so that a
// product of a degree up to 126 never has to stand in one word. m isn't 0.
func mulMod(p, q, m uint64) uint64 {
	p = remainder(p, m)
	product := uint64(0)
	count := Degree(q) + 1
	for i := range count {
		product = appendBit(product, 0, m)
		if hasTerm(q, count-1-i) {
			product ^= p
		}
	}
	return product
}

// appendBit is the remainder by m of rest times x and bit. rest's degree is
// below m's, so that the shift loses nothing and one subtraction is enough.
func appendBit(rest, bit, m uint64) uint64 {
	rest = rest<<1 | bit
	if hasTerm(rest, Degree(m)) {
		rest ^= m
	}
	return rest
}
