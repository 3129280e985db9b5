// Package ratio is layer 1: see shared/doc/01-ratio.md.
package ratio

import (
	"math/bits"

	"marigold/api"
)

// product is what two numbers make, the higher word first: one word can't hold 2^62 times 2^62.
type product [2]uint64

// May tells whether n is from 0 to 2^62.
func May(n int) bool {
	return 0 <= n && n <= api.MaxNum
}

// Add is a and b together, and true; 0 and false, if a, b or that may not be.
func Add(a, b int) (int, bool) {
	if !May(a) || !May(b) || b > api.MaxNum-a {
		return 0, false
	}
	return a + b, true
}

// Mul is a times b, and true; 0 and false, if a, b or that may not be.
func Mul(a, b int) (int, bool) {
	if !May(a) || !May(b) {
		return 0, false
	}
	p := times(a, b)
	if above(p, product{0, api.MaxNum}) {
		return 0, false
	}
	return int(p[1]), true
}

// More tells whether a times b is above c times d; it is not, if one of the four may not be.
func More(a, b, c, d int) bool {
	if !May(a) || !May(b) || !May(c) || !May(d) {
		return false
	}
	return above(times(a, b), times(c, d))
}

// times is meant for numbers that may be: those below 0 would become great words.
func times(a, b int) product {
	high, low := bits.Mul64(uint64(a), uint64(b))
	return product{high, low}
}

// above lets the lower words decide only where the higher ones are the same.
func above(p, q product) bool {
	if p == q {
		return false
	}
	if p[0] != q[0] {
		return p[0] > q[0]
	}
	return p[1] > q[1]
}
