// Package wide has numbers of 128 bits, and sums that do not go over: layer 1.
package wide

import (
	"cmp"
	"math/bits"

	"punchcut/api"
)

// Pair is a number of 128 bits: its high half, and its low one.
type Pair struct{ Hi, Lo uint64 }

// Mul is two numbers' product.
func Mul(a, b uint64) Pair {
	hi, lo := bits.Mul64(a, b)
	return Pair{Hi: hi, Lo: lo}
}

// Compare is -1, 0 or 1, as the first one is less, the same, or greater.
func (p Pair) Compare(q Pair) int {
	if p.Hi != q.Hi {
		return cmp.Compare(p.Hi, q.Hi)
	}
	return cmp.Compare(p.Lo, q.Lo)
}

// Plus is a sum, and whether it goes over 128 bits; the sum then wraps around.
func (p Pair) Plus(q Pair) (Pair, bool) {
	lo, carry := bits.Add64(p.Lo, q.Lo, 0)
	hi, over := bits.Add64(p.Hi, q.Hi, carry)
	return Pair{Hi: hi, Lo: lo}, over != 0
}

// Div is how often a number goes into a pair, and what is left: ErrOver, if that goes over 64 bits, or the number is 0.
func (p Pair) Div(d uint64) (uint64, uint64, api.Errno) {
	// The quotient is below 2^64 exactly if Hi < d, which also rules out a d of 0; bits.Div64 panics on all else.
	if p.Hi >= d {
		return 0, 0, api.ErrOver
	}
	quotient, remainder := bits.Div64(p.Hi, p.Lo, d)
	return quotient, remainder, 0
}

// Add is the sum of two ints, with wrap-around, and whether it fits.
func Add(a, b int) (int, bool) {
	sum := a + b
	// Without wrap-around the sum is less than a exactly if b is negative.
	return sum, (sum < a) == (b < 0)
}

// Times is the product of two ints, with wrap-around, and whether it fits.
func Times(a, b int) (int, bool) {
	// An int goes one further below 0 than above.
	most := uint64(1<<63 - 1)
	if (a < 0) != (b < 0) {
		most = 1 << 63
	}
	exact := Mul(magnitude(a), magnitude(b))
	return a * b, exact.Hi == 0 && exact.Lo <= most
}

// magnitude is an int without its sign. The sign is taken off after the conversion, because the least int has no negative in an int.
func magnitude(a int) uint64 {
	if a < 0 {
		return -uint64(a)
	}
	return uint64(a)
}

// Less compares two numbers from 0 on: a through b, and c through d, of which b and d are above 0: -1, 0 or 1.
func Less(a, b, c, d int) int {
	// Multiplied out, as a quotient would be rounded; 128 bits hold every such product.
	return Mul(uint64(a), uint64(d)).Compare(Mul(uint64(c), uint64(b)))
}
