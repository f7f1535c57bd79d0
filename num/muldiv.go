package num

import (
	"math"
	"math/bits"

	"jointure/api"
)

// Mul: the product. ErrOver: it would be more than 2^256 - 1.
func Mul(a, b api.Num) (api.Num, api.Errno) {
	high, low := product(a, b)
	if high != (api.Num{}) {
		return api.Num{}, api.ErrOver
	}
	return low, api.OK
}

// MulDiv: a times b, by c: rounded down, or, if up, up.
// ErrArg: c is 0; ErrOver: the answer would be more than 2^256 - 1.
func MulDiv(a, b, c api.Num, up bool) (api.Num, api.Errno) {
	if c == (api.Num{}) {
		return api.Num{}, api.ErrArg
	}
	high, low := product(a, b)
	// Rounded down, the answer is 2^256 or more just if the product is c times that, or more.
	if Cmp(high, c) >= 0 {
		return api.Num{}, api.ErrOver
	}
	quotient, exact := divide(high, low, c)
	if up && !exact {
		return Add(quotient, Of(1))
	}
	return quotient, api.OK
}

// scale is a times by, and more, modulo 2^256, and what is above that.
func scale(a api.Num, by, more uint64) (scaled api.Num, over uint64) {
	over = more
	for i, part := range a {
		high, low := bits.Mul64(part, by)
		var carry uint64
		scaled[i], carry = bits.Add64(low, over, 0)
		over = high + carry
	}
	return scaled, over
}

// product is a times b, as 512 bits.
func product(a, b api.Num) (high, low api.Num) {
	for i, part := range b {
		row, top := scale(a, part, 0)
		sum, carry := plus(row, high)
		low[i] = sum[0]
		high = api.Num{sum[1], sum[2], sum[3], top + carry}
	}
	return high, low
}

// divide is high 2^256 + low by c, rounded down, and whether nothing was left.
// high must be below c, so that the quotient is a number.
func divide(high, low, c api.Num) (quotient api.Num, exact bool) {
	// Both shifted alike, the quotient is the same, and a part of it can be told from the highest parts.
	k := noughts(c)
	rest := shiftLeft(high, k)
	for i, part := range shiftRight(low, 256-k) {
		rest[i] |= part
	}
	c = shiftLeft(c, k)
	for i, part := range downward(shiftLeft(low, k)) {
		quotient[i], rest = dividePart(rest, part, c)
	}
	return quotient, rest == api.Num{}
}

// dividePart is rest 2^64 + next by c, rounded down, and what is left.
// rest must be below c, and c's highest bit must be set: then the first guess is at most 2 too many.
func dividePart(rest api.Num, next uint64, c api.Num) (uint64, api.Num) {
	guess := uint64(math.MaxUint64)
	if rest[3] < c[3] {
		guess, _ = bits.Div64(rest[3], rest[2], c[3])
	}
	taken, takenTop := scale(c, guess, 0)
	low, borrow := minus(api.Num{next, rest[0], rest[1], rest[2]}, taken)
	top, under := bits.Sub64(rest[3], takenTop, borrow)
	for under != 0 {
		var carry uint64
		guess--
		low, carry = plus(low, c)
		top, carry = bits.Add64(top, 0, carry)
		under -= carry
	}
	return guess, low
}

// noughts is how many bits ahead of the highest one that is set aren't (of 0: all 256).
func noughts(a api.Num) int {
	n := 0
	for _, part := range downward(a) {
		n += bits.LeadingZeros64(part)
		if part != 0 {
			break
		}
	}
	return n
}

// shiftLeft is a shifted to the left by k bits.
func shiftLeft(a api.Num, k int) (shifted api.Num) {
	parts, rest := k/64, k%64
	for i := parts; i < len(a); i++ {
		shifted[i] = a[i-parts] << rest
		if i > parts {
			shifted[i] |= a[i-parts-1] >> (64 - rest)
		}
	}
	return shifted
}

// shiftRight is a shifted to the right by k bits.
func shiftRight(a api.Num, k int) (shifted api.Num) {
	parts, rest := k/64, k%64
	for i := parts; i < len(a); i++ {
		shifted[i-parts] = a[i] >> rest
		if i+1 < len(a) {
			shifted[i-parts] |= a[i+1] << (64 - rest)
		}
	}
	return shifted
}
