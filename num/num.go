// Package num is layer 1: numbers of 256 bits.
package num

import (
	"cmp"
	"iter"
	"math/bits"

	"jointure/api"
)

// Of: a small one.
func Of(n uint64) api.Num { return api.Num{n} }

// Cmp: -1, 0, 1: a is less, as much, more.
func Cmp(a, b api.Num) int {
	if a != b {
		for i, part := range downward(a) {
			if c := cmp.Compare(part, b[i]); c != 0 {
				return c
			}
		}
	}
	return 0
}

// Add: of both. ErrOver: it would be more than 2^256 - 1.
func Add(a, b api.Num) (api.Num, api.Errno) {
	sum, carry := plus(a, b)
	if carry != 0 {
		return api.Num{}, api.ErrOver
	}
	return sum, api.OK
}

// Sub: a less b. ErrFunds: b is more.
func Sub(a, b api.Num) (api.Num, api.Errno) {
	left, borrow := minus(a, b)
	if borrow != 0 {
		return api.Num{}, api.ErrFunds
	}
	return left, api.OK
}

// Rest: a less b; 0, if b is more.
func Rest(a, b api.Num) api.Num {
	left, _ := Sub(a, b) // beside its error Sub answers 0, which is what is wanted here
	return left
}

// Least: the less one.
func Least(a, b api.Num) api.Num {
	if Cmp(a, b) < 0 {
		return a
	}
	return b
}

// downward goes through the places and parts of a number, the highest first.
func downward(a api.Num) iter.Seq2[int, uint64] {
	return func(yield func(int, uint64) bool) {
		for i := len(a) - 1; i >= 0; i-- {
			if !yield(i, a[i]) {
				return
			}
		}
	}
}

// plus is the sum modulo 2^256, and 1 if it is more than that.
func plus(a, b api.Num) (sum api.Num, carry uint64) {
	for i := range sum {
		sum[i], carry = bits.Add64(a[i], b[i], carry)
	}
	return sum, carry
}

// minus is the difference modulo 2^256, and 1 if it is below 0.
func minus(a, b api.Num) (left api.Num, borrow uint64) {
	for i := range left {
		left[i], borrow = bits.Sub64(a[i], b[i], borrow)
	}
	return left, borrow
}
