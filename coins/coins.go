// Package coins is layer 2: amounts of several denominations.
package coins

import (
	"jointure/api"
	"jointure/num"
)

// Right: may a list be: are its denominations rising, each below MaxDenom, with numbers that aren't 0?
func Right(l []api.Coin) bool {
	least := 0
	for _, c := range l {
		if int(c.Denom) < least || c.Denom >= api.MaxDenom || c.N == (api.Num{}) {
			return false
		}
		least = int(c.Denom) + 1
	}
	return true
}

// Amount: how much there is of a denomination.
func Amount(l []api.Coin, denom byte) api.Num {
	for _, c := range l {
		if c.Denom == denom {
			return c.N
		}
	}
	return api.Num{}
}

// One: a coin alone; none, if n is 0, or there is no such denomination.
func One(denom byte, n api.Num) []api.Coin {
	if denom >= api.MaxDenom || n == (api.Num{}) {
		return nil
	}
	return []api.Coin{{Denom: denom, N: n}}
}

// Add: both. ErrOver: one would be more than a number can be.
func Add(a, b []api.Coin) ([]api.Coin, api.Errno) { return ofEach(num.Add)(a, b) }

// Sub: a less b. ErrFunds: of one there is more in b.
func Sub(a, b []api.Coin) ([]api.Coin, api.Errno) { return ofEach(num.Sub)(a, b) }

// Least: the less of each.
func Least(a, b []api.Coin) []api.Coin {
	l, _ := ofEach(unfailing(num.Least))(a, b)
	return l
}

// Rest: what of each there is more in a.
func Rest(a, b []api.Coin) []api.Coin {
	l, _ := ofEach(unfailing(num.Rest))(a, b)
	return l
}

// Within: is there of none more in a?
func Within(a, b []api.Coin) bool {
	return forAll(func(x, y api.Num) bool { return num.Cmp(x, y) <= 0 })(a, b)
}

// Same: alike?
func Same(a, b []api.Coin) bool {
	return forAll(func(x, y api.Num) bool { return x == y })(a, b)
}

// ofEach makes of what two numbers come to what two lists come to: of each denomination by itself, up to the first error.
func ofEach(of func(x, y api.Num) (api.Num, api.Errno)) func(a, b []api.Coin) ([]api.Coin, api.Errno) {
	return func(a, b []api.Coin) ([]api.Coin, api.Errno) {
		var l []api.Coin
		for denom := range byte(api.MaxDenom) {
			n, e := of(Amount(a, denom), Amount(b, denom))
			if e != api.OK {
				return nil, e
			}
			l = append(l, One(denom, n)...)
		}
		return l, api.OK
	}
}

// unfailing makes of a function that has no errors one that tells that there was none.
func unfailing(of func(x, y api.Num) api.Num) func(x, y api.Num) (api.Num, api.Errno) {
	return func(x, y api.Num) (api.Num, api.Errno) { return of(x, y), api.OK }
}

// forAll makes of a question about two numbers one about two lists: does it hold of each denomination?
func forAll(holds func(x, y api.Num) bool) func(a, b []api.Coin) bool {
	return func(a, b []api.Coin) bool {
		for denom := range byte(api.MaxDenom) {
			if !holds(Amount(a, denom), Amount(b, denom)) {
				return false
			}
		}
		return true
	}
}
