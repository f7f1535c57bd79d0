package yield_test

import (
	"math/big"
	"math/rand/v2"
	"slices"
	"testing"

	"jointure/api"
	"jointure/bank"
	"jointure/pool"
	"jointure/store"
	"jointure/yield"
)

// third is what one of three shares earns of 10: 10 times 2^64, by 3, rounded down.
var third = api.Num{0x5555555555555555, 3}

// begun is a both with two validators, of 3 and of 5 shares, of which the first one's Index and Earned aren't nothing, and Rewards for all that.
func begun(t *testing.T) *both {
	b := start(t).account(1, 2).account(7, 7).add(1, 1000).add(9, 0)
	b.shares(1, 0, n(2)).shares(7, 0, n(1)).shares(1, 1, n(1)).shares(5, 1, n(4))
	b.mint(api.Rewards, list{of(0, 110), of(3, 55)}).mint(3, full(n(1000)))
	for _, val := range []byte{0, 1} {
		if e := b.deposit(val, list{of(0, 55), of(3, 22)}); e != api.OK {
			t.Error(e)
		}
	}
	b.look()
	return b
}

func TestExample(t *testing.T) {
	s := store.New()
	pool.Add(s, 1, 0)
	pool.SetVal(s, api.Validator{Owner: 1, Shares: n(3)})
	bank.Mint(s, api.Rewards, list{of(0, 10)})
	if e := yield.Deposit(s, 0, list{of(0, 10)}); e != api.OK {
		t.Error(e)
	}
	v, _ := pool.Val(s, 0)
	for shares, want := range []list{nil, {of(0, 3)}, {of(0, 6)}, {of(0, 9)}} {
		if l := yield.Due(v, api.Delegation{Shares: n(uint64(shares))}); !slices.Equal(l, want) {
			t.Error(shares, l)
		}
	}
	if l := bank.Coins(s, api.Dust); len(l) != 0 {
		t.Error(l)
	}
}

func TestP12_1Due(t *testing.T) {
	half := api.Num{0, 0, 0, 1 << 63}
	for _, c := range []struct {
		index, own list
		shares     api.Num
		want       list
	}{
		// nothing: no index, one that isn't more, no shares
		{nil, nil, n(5), nil},
		{nil, list{so(0, step)}, n(5), nil},
		{list{so(0, step)}, list{so(0, step)}, n(5), nil},
		{list{so(0, step)}, list{so(0, api.Num{1, 1})}, most, nil},
		{list{so(2, most)}, nil, n(0), nil},
		// rounded down
		{list{of(0, 1)}, nil, n(1), nil},
		{list{of(0, top)}, nil, n(1), nil},
		{list{of(0, 1)}, nil, step, list{of(0, 1)}},
		{list{of(0, 1)}, nil, n(top), nil},
		{list{of(0, 2)}, nil, n(1 << 63), list{of(0, 1)}},
		{list{so(0, third)}, nil, n(1), list{of(0, 3)}},
		{list{so(0, third)}, nil, n(2), list{of(0, 6)}},
		{list{so(0, third)}, nil, n(3), list{of(0, 9)}},
		{list{so(0, api.Num{0x5555555555555556, 3})}, nil, n(3), list{of(0, 10)}},
		{list{so(0, third)}, list{so(0, step)}, n(3), list{of(0, 6)}},
		{list{so(0, third)}, list{of(0, 0x5555555555555555)}, n(3), list{of(0, 9)}},
		{list{so(0, third)}, list{of(0, 0x5555555555555556)}, n(3), list{of(0, 8)}},
		// of each denomination by itself
		{list{so(1, step), so(7, third)}, nil, n(4), list{of(1, 4), of(7, 13)}},
		{list{so(1, step), so(7, third)}, list{of(0, 9), so(1, step), so(7, step)}, n(4), list{of(7, 9)}},
		{list{so(0, step), of(3, 1), so(7, step)}, list{so(7, most)}, n(4), list{of(0, 4)}},
		{full(step), full(n(1)), n(2), full(n(1))},
		{full(step), list{so(5, step)}, n(6), slices.Delete(full(n(6)), 5, 6)},
		// as much as a number can be, and more: nothing of it, and the others all the same
		{list{so(0, step)}, nil, most, list{so(0, most)}},
		{list{so(0, most)}, nil, step, list{so(0, most)}},
		{list{so(0, api.Num{1, 1})}, nil, most, nil},
		{list{so(0, most)}, nil, api.Num{1, 1}, nil},
		{list{so(0, most)}, nil, most, nil},
		{list{so(0, most)}, list{so(0, less)}, most, list{so(0, api.Num{top, top, top})}},
		{list{so(0, api.Num{0, 2})}, list{so(0, step)}, most, list{so(0, most)}},
		{list{so(0, api.Num{0, 2})}, nil, half, nil},
		{list{so(0, api.Num{0, 2})}, nil, api.Num{top, top, top, 1<<63 - 1}, list{so(0, api.Num{top - 1, top, top, top})}},
		{list{so(0, step), so(1, api.Num{1, 1}), so(2, step)}, nil, most, list{so(0, most), so(2, most)}},
		{append(full(most)[:7:7], so(7, step)), nil, api.Num{1, 1}, list{so(7, api.Num{1, 1})}},
	} {
		v := api.Validator{Id: 3, Owner: 9, Rate: 10000, Jailed: true, Tokens: n(1), Earned: full(n(5)), Index: c.index}
		d := api.Delegation{Owner: 4, Val: 8, Shares: c.shares, Index: c.own}
		if l := start(t).askDue(v, d); !slices.Equal(l, c.want) {
			t.Error(c, "the model says", l)
		}
		v.Shares = n(2) // that there are fewer than it has, or that it is another one's, doesn't matter
		if l := yield.Due(v, d); !slices.Equal(l, c.want) {
			t.Error(c, l)
		}
		if l := yield.Due(api.Validator{Index: c.index}, api.Delegation{Shares: c.shares, Index: c.own}); !slices.Equal(l, c.want) {
			t.Error(c, l)
		}
	}
}

// edge is a number at which something goes over, or nearly, or any other one.
func edge(r *rand.Rand) api.Num {
	some := []uint64{0, 0, 0, 1, 2, 3, 10000, 1 << 63, top - 1, top}
	var a api.Num
	for i := range 1 + r.IntN(4) {
		if a[i] = some[r.IntN(len(some))]; r.IntN(3) == 0 {
			a[i] = r.Uint64() >> r.IntN(64)
		}
	}
	return a
}

// anyCoins are of some denominations, each number as it is told.
func anyCoins(r *rand.Rand, number func(*rand.Rand) api.Num) list {
	var l list
	for d := range byte(api.MaxDenom) {
		if x := number(r); r.IntN(3) == 0 && x != (api.Num{}) {
			l = append(l, so(d, x))
		}
	}
	return l
}

func TestP12_1DueAny(t *testing.T) {
	r := rand.New(rand.NewPCG(12, 1))
	told := 0
	for range 10000 {
		v := api.Validator{Shares: edge(r), Index: anyCoins(r, edge)}
		d := api.Delegation{Shares: edge(r), Index: anyCoins(r, edge)}
		if r.IntN(2) == 0 {
			d.Index = slices.Clone(v.Index)
			for i := range d.Index {
				d.Index[i].N[0] ^= r.Uint64()>>r.IntN(64) | 1
			}
			if !right(d.Index) {
				continue
			}
		}
		told += len(start(t).askDue(v, d))
	}
	if told < 2000 {
		t.Error("hardly anything is due:", told)
	}
}

// Of a validator without shares all goes to Dust, whatever its Rate is, and it earns nothing.
func TestP12_1NoShares(t *testing.T) {
	for _, rate := range []uint16{0, 1, 5000, 10000} {
		for _, v := range []api.Validator{{}, {Tokens: n(5), Jailed: true}, {Index: full(most), Earned: full(most)}, {Index: list{of(1, 3)}, Earned: list{of(0, 4)}}} {
			for _, l := range []list{nil, {of(0, 1)}, {of(7, 11)}, {of(0, 5), of(3, 10000)}, full(n(9)), {so(0, less)}, full(less)} {
				b := start(t).account(1, 2).add(3, 5).add(1, rate)
				v.Id, v.Owner, v.Rate = 1, 1, rate
				b.val(v).mint(api.Rewards, l).mint(4, full(n(1)))
				if e := b.deposit(1, l); e != api.OK {
					t.Error(rate, v, l, e)
				}
				if got := bank.Coins(b.s, api.Dust); !slices.Equal(got, l) || len(bank.Coins(b.s, api.Rewards)) != 0 {
					t.Error(rate, v, l, got)
				}
				if got, _ := pool.Val(b.s, 1); !sameVal(got, v) {
					t.Error(got, v)
				}
				b.look()
			}
		}
	}
}

func TestP12_1Deposit(t *testing.T) {
	for _, c := range []struct {
		rate                 uint16
		shares               api.Num
		l                    list
		earned, index, stays list // stays: what of l didn't go to Dust
	}{
		// exactly
		{0, n(1), list{of(0, 1)}, nil, list{so(0, step)}, list{of(0, 1)}},
		{0, n(5), list{of(0, 10)}, nil, list{so(0, api.Num{0, 2})}, list{of(0, 10)}},
		{0, n(1), nil, nil, nil, nil},
		// with a remainder: less than one share's least part is rounded up, and nothing is left
		{0, n(3), list{of(0, 10)}, nil, list{so(0, third)}, list{of(0, 10)}},
		{0, n(3), list{of(6, 1)}, nil, list{of(6, 0x5555555555555555)}, list{of(6, 1)}},
		{0, n(top), list{of(0, 1)}, nil, list{of(0, 1)}, list{of(0, 1)}},
		// of many shares: what is left is more than 1
		{0, step, list{of(0, 1)}, nil, list{of(0, 1)}, list{of(0, 1)}},
		{0, api.Num{1, 1}, list{of(0, 1)}, nil, nil, nil},
		{0, api.Num{0, 3}, list{of(0, 10)}, nil, list{of(0, 3)}, list{of(0, 9)}},
		{0, api.Num{0, 10}, list{of(0, 10)}, nil, list{of(0, 1)}, list{of(0, 10)}},
		{0, api.Num{0, 11}, list{of(0, 10)}, nil, nil, nil},
		{0, api.Num{0, 4}, list{of(0, 10)}, nil, list{of(0, 2)}, list{of(0, 8)}},
		{0, api.Num{1, 4}, list{of(0, 10)}, nil, list{of(0, 2)}, list{of(0, 9)}},
		{0, api.Num{top, 4}, list{of(0, 10)}, nil, list{of(0, 2)}, list{of(0, 10)}},
		{0, most, list{of(0, top)}, nil, nil, nil},
		{0, most, list{so(0, most)}, nil, list{so(0, step)}, list{so(0, most)}},
		{0, most, list{so(0, less)}, nil, list{of(0, top)}, list{so(0, api.Num{0, 0, 0, top})}},
		// as much as a number can be
		{0, n(1), list{so(0, api.Num{top, top, top})}, nil, list{so(0, api.Num{0, top, top, top})}, list{so(0, api.Num{top, top, top})}},
		{0, n(2), list{so(0, api.Num{0, 0, 0, 1})}, nil, list{so(0, api.Num{0, 0, 0, 1 << 63})}, list{so(0, api.Num{0, 0, 0, 1})}},
		{0, step, list{so(0, most)}, nil, list{so(0, most)}, list{so(0, most)}},
		// the commission is rounded down, and doesn't raise the index
		{1000, n(3), list{of(0, 11)}, list{of(0, 1)}, list{so(0, third)}, list{of(0, 11)}},
		{1000, n(3), list{of(0, 10)}, list{of(0, 1)}, list{so(0, api.Num{0, 3})}, list{of(0, 10)}},
		{1000, n(1), list{of(0, 9)}, nil, list{so(0, api.Num{0, 9})}, list{of(0, 9)}},
		{1, n(1), list{of(0, 9999)}, nil, list{so(0, api.Num{0, 9999})}, list{of(0, 9999)}},
		{1, n(1), list{of(0, 10000)}, list{of(0, 1)}, list{so(0, api.Num{0, 9999})}, list{of(0, 10000)}},
		{9999, n(1), list{of(0, 9999)}, list{of(0, 9998)}, list{so(0, step)}, list{of(0, 9999)}},
		{9999, n(1), list{of(0, 1)}, nil, list{so(0, step)}, list{of(0, 1)}},
		{10000, n(1), list{of(0, 7)}, list{of(0, 7)}, nil, list{of(0, 7)}},
		{10000, n(1), list{so(0, most)}, list{so(0, most)}, nil, list{so(0, most)}},
		{5000, api.Num{0, 3}, list{of(0, 20)}, list{of(0, 10)}, list{of(0, 3)}, list{of(0, 19)}},
		{5000, api.Num{0, 11}, list{of(0, 20)}, list{of(0, 10)}, nil, list{of(0, 10)}},
		// of each denomination by itself
		{1000, n(3), list{of(0, 11), of(2, 3), of(7, 30)}, list{of(0, 1), of(7, 3)}, list{so(0, third), so(2, step), so(7, api.Num{0, 9})}, list{of(0, 11), of(2, 3), of(7, 30)}},
		{5000, api.Num{0, 3}, list{of(1, 1), of(4, 2), of(5, 6), of(6, 7)}, list{of(4, 1), of(5, 3), of(6, 3)}, list{of(5, 1), of(6, 1)}, list{of(4, 1), of(5, 6), of(6, 6)}},
		{0, n(2), full(n(4)), nil, full(api.Num{0, 2}), full(n(4))},
	} {
		for _, jailed := range []bool{false, true} { // what it did wrong doesn't matter
			b := start(t).add(1, c.rate)
			b.val(api.Validator{Owner: 1, Rate: c.rate, Jailed: jailed, Tokens: n(6), Shares: c.shares}).mint(api.Rewards, c.l)
			if e := b.deposit(0, c.l); e != api.OK {
				t.Error(c, e)
			}
			b.look()
			v, _ := pool.Val(b.s, 0)
			if !slices.Equal(v.Earned, c.earned) || !slices.Equal(v.Index, c.index) || !slices.Equal(bank.Coins(b.s, api.Rewards), c.stays) {
				t.Error(c, v, bank.All(b.s))
			}
		}
	}
}

// What comes is added to what there is, of each denomination, and of other validators nothing changes.
func TestP12_1DepositMore(t *testing.T) {
	b := begun(t).mint(api.Rewards, full(n(100)))
	for _, l := range []list{{of(0, 10)}, {of(3, 1)}, {of(1, 20), of(3, 30)}, full(n(11)), nil, full(n(1))} {
		for _, val := range []byte{0, 1} {
			if e := b.deposit(val, l); e != api.OK {
				t.Error(l, e)
			}
			b.look()
			b.owes()
		}
	}
}

// Small numbers, all of them.
func TestP12_1AllSmall(t *testing.T) {
	for k := range 5 * 5 * 4 {
		x, y, rate := n(uint64(k%5)), n(uint64(k/5%5)), []uint16{0, 2500, 9999, 10000}[k/25]
		b := start(t).add(1, rate)
		b.shares(1, 0, x).shares(2, 0, y)
		for i := range uint64(16) {
			l := list{of(0, i)}[:min(i, 1)]
			b.mint(api.Rewards, l)
			if e := b.deposit(0, l); e != api.OK {
				t.Error(k, i, e)
			}
			b.look()
			b.owes()
		}
	}
}

// A deed is a deposit at a validator.
type deed struct {
	val byte
	l   list
}

// crammed is a both with validators of one share of which much is just no number any more; overs are deeds that would be too much, fine ones just not.
func crammed(t *testing.T) (b *both, overs, fine []deed) {
	b = start(t).account(1, 2).add(1, 10000).add(1, 0).add(2, 5000)
	b.val(api.Validator{Id: 0, Owner: 1, Rate: 10000, Shares: n(1), Index: full(most), Earned: list{so(1, most), so(2, less)}})
	b.val(api.Validator{Id: 1, Owner: 1, Rate: 0, Shares: n(1), Index: list{so(1, less), so(2, api.Num{0, top, top, top}), so(3, api.Num{top, top - 1, top, top})}, Earned: full(most)})
	b.val(api.Validator{Id: 2, Owner: 2, Rate: 5000, Shares: n(1), Index: list{so(1, most)}, Earned: list{so(2, most)}})
	power := api.Num{0, 0, 0, 1} // times 2^64 it is just no number
	overs = []deed{
		// an Earned
		{0, list{of(1, 1)}}, {0, list{of(2, 2)}}, {0, list{of(0, 1), of(1, 1), of(7, 1)}}, {0, full(n(1))}, {2, list{of(2, 2)}}, {2, list{of(0, 1), of(2, 3)}},
		// a rise
		{1, list{so(0, power)}}, {1, list{of(0, 1), so(7, power)}}, {1, full(most)}, {2, list{so(7, most)}},
		// an Index
		{1, list{of(1, 1)}}, {1, list{of(2, 1)}}, {1, list{of(0, 5), of(3, 2)}}, {1, full(n(1))}, {2, list{of(1, 1)}}, {2, list{of(0, 1), of(1, 3)}},
	}
	fine = []deed{
		{0, list{of(2, 1)}}, {1, list{of(3, 1)}}, {1, list{so(0, api.Num{top, top, top})}}, {2, list{of(2, 1)}}, {0, list{so(7, power)}}, {1, list{of(7, 1)}},
	}
	return b, overs, fine
}

// deposits that answer an error do nothing.
func (b *both) deposits(want api.Errno, l ...deed) {
	b.t.Helper()
	for _, d := range l {
		b.nothing(want, func() api.Errno { return b.deposit(d.val, d.l) })
	}
}

// Where several errors could be, it is the first one: ErrNone, ErrArg, ErrOver, ErrFunds.
func TestP12_1Errors(t *testing.T) {
	b, overs, fine := crammed(t)
	var none, arg []deed
	for _, l := range wrongLists() {
		for _, val := range []byte{3, 4, 15, 16, 200, 255} {
			none = append(none, deed{val, l}, deed{val, full(most)}, deed{val, list{of(0, 1)}}, deed{val, nil})
		}
		for val := range byte(3) {
			arg = append(arg, deed{val, l})
		}
	}
	for _, l := range []list{append(full(most), of(7, 1)), append(full(most), of(8, 1)), append(list{{}}, full(most)[1:]...)} {
		arg = append(arg, deed{0, l}, deed{1, l}, deed{2, l})
	}
	check := func() {
		t.Helper()
		b.deposits(api.ErrNone, none...)
		b.deposits(api.ErrArg, arg...)
		b.deposits(api.ErrOver, overs...)
	}
	check()
	b.deposits(api.ErrFunds, fine...)
	b.mint(api.Rewards, full(api.Num{0, 0, 0, 1 << 62}))
	check()
	for _, d := range fine {
		if e := b.deposit(d.val, d.l); e != api.OK {
			t.Error(d, e)
		}
		b.look()
	}
	b = start(t)
	for val := range 256 {
		b.deposits(api.ErrNone, deed{byte(val), nil}, deed{byte(val), list{{}}}, deed{byte(val), full(most)})
	}
	b.add(1, 0)
	b.deposits(api.ErrArg, deed{0, list{{}}})
	b.deposits(api.ErrNone, none...)
}

// All of l must be there, in each denomination, though just a part of it goes; and whatever others have.
func TestP12_1Funds(t *testing.T) {
	for _, shares := range []api.Num{{}, {1}, {3}, {1, 4}, {0, 11}, most} {
		for _, rate := range []uint16{0, 5000, 10000} {
			b := start(t).account(1, 2).add(1, rate)
			b.val(api.Validator{Owner: 1, Rate: rate, Shares: shares})
			for _, addr := range []byte{0, 1, 2, api.Bonded, api.Leaving, api.Fees, api.Dust} {
				b.mint(addr, full(n(1000)))
			}
			b.deposits(api.ErrFunds, deed{0, list{of(0, 1)}}, deed{0, full(n(1))})
			b.mint(api.Rewards, list{of(0, 10), of(6, 9)})
			b.deposits(api.ErrFunds, deed{0, list{of(0, 11)}}, deed{0, list{of(0, 10), of(6, 10)}}, deed{0, list{of(0, 1), of(1, 1)}}, deed{0, list{of(7, 1)}}, deed{0, list{so(0, api.Num{10, 1})}})
			if e := b.deposit(0, list{of(0, 10), of(6, 9)}); e != api.OK {
				t.Error(shares, rate, e)
			}
			b.look()
			b.owes()
		}
	}
}

// What is due goes to the Pay of its owner, whether that has an account or not; without an account, to the owner.
func TestP12_2Pay(t *testing.T) {
	for _, c := range []struct{ owner, pay, other byte }{{1, 1, 2}, {1, 2, 3}, {1, 0, 2}, {0, 199, 1}, {199, 0, 1}, {5, 4, 3}} {
		for kind := range 4 {
			b := start(t).add(c.owner, 2500)
			to := c.owner
			if kind > 0 {
				b.account(c.owner, c.pay)
				to = c.pay
			}
			if kind == 2 && c.pay != c.owner {
				b.account(c.pay, c.other) // that its own rewards go elsewhere doesn't matter
			}
			if kind == 3 {
				b.account(c.other, c.owner)
			}
			b.shares(c.owner, 0, n(3)).mint(api.Rewards, list{of(0, 8), of(5, 16)})
			b.deposit(0, list{of(0, 8), of(5, 16)})
			b.settle(c.owner, 0)
			b.look()
			if l := bank.Coins(b.s, to); !slices.Equal(l, list{of(0, 6), of(5, 12)}) {
				t.Error(c, kind, bank.All(b.s))
			}
			b.commission(0)
			b.look()
			if l := bank.Coins(b.s, to); !slices.Equal(l, list{of(0, 8), of(5, 16)}) {
				t.Error(c, kind, bank.All(b.s))
			}
		}
	}
}

// A delegation is Settled: its Index is the validator's, nothing is due any more, and no other one is touched.
func TestP12_2Settle(t *testing.T) {
	b := begun(t)
	for _, k := range []pair{{1, 0}, {1, 0}, {5, 1}, {1, 1}, {7, 0}, {5, 1}, {7, 0}, {1, 0}} {
		if e := b.settle(k.owner, k.val); e != api.OK {
			t.Error(k, e)
		}
		b.look()
		b.owes()
		v, _ := pool.Val(b.s, k.val)
		d, _ := pool.Get(b.s, k.owner, k.val)
		if !slices.Equal(d.Index, v.Index) || len(v.Index) != 2 || len(yield.Due(v, d)) != 0 || len(v.Earned) == 0 && k.val == 0 {
			t.Error(k, v, d)
		}
	}
	// of 55 and 22 the owner has 5 and 2; the rest is 50 and 20, by 3 shares, and 55 and 22 by 5
	for addr, want := range map[byte]list{2: {of(0, 33+11), of(3, 13+4)}, 7: {of(0, 16), of(3, 6)}, 5: {of(0, 44), of(3, 17)}, api.Dust: nil} {
		if l := bank.Coins(b.s, addr); !slices.Equal(l, want) {
			t.Error(addr, l, want)
		}
	}
}

// Whatever an Index was, it is the validator's: also where nothing is due, or so much that it is nothing.
func TestP12_2SettleIndex(t *testing.T) {
	for _, index := range []list{nil, {so(0, step)}, {so(1, api.Num{0, 3}), so(2, most)}, full(most), full(step)} {
		for _, own := range []list{nil, {so(0, api.Num{5, 1})}, {so(2, most)}, full(most), {of(1, 7), of(5, 5)}, full(step)} {
			for _, shares := range []api.Num{{1}, {2}, {0, 1}, {0, 0, 0, 1}, most} {
				b := start(t).account(3, 4).add(1, 0).add(1, 0).mint(api.Rewards, full(api.Num{0, 0, top, top}))
				b.val(api.Validator{Id: 1, Owner: 1, Shares: n(7), Index: index, Earned: full(n(1))})
				b.del(api.Delegation{Owner: 3, Val: 1, Shares: shares, Index: own}).del(api.Delegation{Owner: 4, Val: 1, Shares: shares, Index: own}).del(api.Delegation{Owner: 3, Val: 0, Shares: shares, Index: own})
				for range 2 {
					if e := b.settle(3, 1); e == api.ErrFunds {
						d, _ := pool.Get(b.s, 3, 1)
						b.nothing(api.ErrFunds, func() api.Errno { return b.settle(3, 1) })
						if !slices.Equal(d.Index, own) {
							t.Error(d)
						}
					} else if d, _ := pool.Get(b.s, 3, 1); !slices.Equal(d.Index, index) || d.Shares != shares {
						t.Error(e, d)
					}
					b.look()
				}
			}
		}
	}
}

// Where there is no such delegation it is ErrNone, whatever else there is of its owner, and of its validator.
func TestP12_2SettleNone(t *testing.T) {
	empty := start(t)
	b := begun(t)
	b.shares(5, 0, n(3)).shares(5, 0, n(0)) // it is gone
	for owner := range 256 {
		for _, val := range []byte{0, 1, 2, 15, 16, 17, 255} {
			empty.nothing(api.ErrNone, func() api.Errno { return empty.settle(byte(owner), val) })
			if _, there := b.dels[pair{byte(owner), val}]; !there {
				b.nothing(api.ErrNone, func() api.Errno { return b.settle(byte(owner), val) })
			}
		}
	}
}

// rich is a both in which all but the module Rewards have much.
func rich(t *testing.T) *both {
	b := start(t).account(1, 2)
	for _, addr := range []byte{0, 1, 2, api.Bonded, api.Leaving, api.Fees, api.Dust} {
		b.mint(addr, full(n(1000)))
	}
	return b
}

// Of what is owed all must be there, in each denomination; else nothing goes, and it stays owed.
func TestP12_2Funds(t *testing.T) {
	for _, c := range []struct {
		there list
		want  api.Errno
	}{
		{nil, api.ErrFunds}, {list{of(0, 8), of(6, 8)}, api.ErrFunds}, {list{of(0, 9), of(6, 7)}, api.ErrFunds}, {list{of(0, 9)}, api.ErrFunds}, {list{of(6, 8)}, api.ErrFunds},
		{list{of(1, 9), of(5, 8)}, api.ErrFunds}, {list{so(0, api.Num{0, 0, 0, 1 << 63}), of(7, 100)}, api.ErrFunds}, {list{so(0, api.Num{8, 1}), of(6, 7)}, api.ErrFunds},
		{list{of(0, 9), of(6, 8)}, api.OK}, {full(n(9)), api.OK}, {list{so(0, step), of(6, 8)}, api.OK},
	} {
		owed := list{of(0, 9), of(6, 8)}
		for _, settle := range []bool{true, false} {
			b := rich(t).add(1, 0)
			b.mint(api.Rewards, c.there)
			b.val(api.Validator{Owner: 1, Shares: n(5), Index: list{so(0, third), so(6, api.Num{top, 2})}, Earned: owed}).del(api.Delegation{Owner: 1, Shares: n(3)})
			deed := func() api.Errno {
				if settle {
					return b.settle(1, 0)
				}
				return b.commission(0)
			}
			if c.want != api.OK {
				b.nothing(c.want, deed)
				continue
			}
			if e := deed(); e != api.OK {
				t.Error(c, settle, e)
			}
			b.look()
			if got := bank.Coins(b.s, 2); !slices.Equal(got, filled(full(n(1000))).with(owed, 1).coins()) {
				t.Error(c, settle, got)
			}
		}
	}
}

// What is Earned goes once; the rest of the validator stays as it is, and so do other ones.
func TestP12_2Commission(t *testing.T) {
	for _, earned := range []list{nil, {of(0, 1)}, {of(7, 9)}, full(n(5)), {so(3, api.Num{0, 0, 0, 1})}, full(less)} {
		b := start(t).account(1, 2).add(9, 5).add(1, 700).add(1, 10000).mint(api.Rewards, earned)
		for id := range byte(3) {
			b.val(api.Validator{Id: id, Owner: 1, Rate: 700, Jailed: true, Tokens: n(5), Shares: n(6), Index: list{of(2, 3)}, Earned: earned})
		}
		b.del(api.Delegation{Owner: 1, Val: 1, Shares: n(6)})
		for range 2 {
			if e := b.commission(1); e != api.OK {
				t.Error(earned, e)
			}
			b.look()
			v, _ := pool.Val(b.s, 1)
			if len(v.Earned) != 0 || !slices.Equal(v.Index, list{of(2, 3)}) || !slices.Equal(bank.Coins(b.s, 2), earned) {
				t.Error(earned, v, bank.All(b.s))
			}
		}
		if len(earned) > 0 {
			b.nothing(api.ErrFunds, func() api.Errno { return b.commission(0) })
		}
	}
	b := begun(t) // of the first one, whose owner's account pays elsewhere, then of another owner's, who has none
	b.commission(0)
	b.look()
	v := b.vals[0]
	v.Owner = 8
	b.val(v).mint(api.Rewards, list{of(0, 100)})
	b.deposit(0, list{of(0, 100)})
	b.commission(0)
	b.look()
	b.owes()
	if x, y := bank.Coins(b.s, 2), bank.Coins(b.s, 8); !slices.Equal(x, list{of(0, 5), of(3, 2)}) || !slices.Equal(y, list{of(0, 10)}) {
		t.Error(x, y)
	}
}

func TestP12_2CommissionNone(t *testing.T) {
	empty, b := start(t), begun(t)
	for val := range 256 {
		empty.nothing(api.ErrNone, func() api.Errno { return empty.commission(byte(val)) })
		if val > 1 {
			b.nothing(api.ErrNone, func() api.Errno { return b.commission(byte(val)) })
		}
	}
}

// Who asks often gets no more than who asks once, and less by less than 1 for each time.
func TestP12_3Often(t *testing.T) {
	b := start(t).add(9, 0)
	for _, owner := range []byte{1, 2, 3} {
		b.shares(owner, 0, n(1))
	}
	for range 4 {
		b.mint(api.Rewards, list{of(0, 1)})
		b.deposit(0, list{of(0, 1)})
		b.settle(1, 0) // a third is due: nothing
		b.settle(2, 0)
		b.owes()
	}
	b.settle(3, 0) // four thirds
	b.look()
	if got := bank.All(b.s); !slices.EqualFunc(got, []api.Balance{{Addr: 3, Coins: list{of(0, 1)}}, {Addr: api.Rewards, Coins: list{of(0, 3)}}}, func(x, y api.Balance) bool { return x.Addr == y.Addr && slices.Equal(x.Coins, y.Coins) }) {
		t.Error(got)
	}
	r := rand.New(rand.NewPCG(12, 3))
	for range 200 {
		often(t, r)
	}
}

// often has two delegations of as many shares, beside another one: one asks behind each deposit, one at the end.
func often(t *testing.T, r *rand.Rand) {
	t.Helper()
	x, other, rate := small(r), small(r), uint16(r.IntN(10001))
	b := start(t).add(9, rate)
	b.shares(1, 0, x).shares(2, 0, x).shares(3, 0, other)
	times := 1 + r.IntN(20)
	gave := filled(nil)
	for range times {
		l := anyCoins(r, small)
		b.mint(api.Rewards, l)
		if e := b.deposit(0, l); e != api.OK {
			t.Fatal(e)
		}
		gave = gave.with(l, 1)
		b.settle(1, 0)
		b.owes()
	}
	b.settle(2, 0)
	b.owes()
	b.look()
	shares := new(big.Int).Add(new(big.Int).Lsh(whole(x), 1), whole(other))
	many, once := filled(bank.Coins(b.s, 1)), filled(bank.Coins(b.s, 2))
	for d := range gave {
		least := new(big.Int).Add(many[d], big.NewInt(int64(times)))
		if many[d].Cmp(once[d]) > 0 || once[d].Cmp(least) >= 0 && once[d].Sign() > 0 {
			t.Error("often", many[d], "once", once[d], "times", times)
		}
		// no more than its part of all that came
		if new(big.Int).Mul(once[d], shares).Cmp(new(big.Int).Mul(gave[d], whole(x))) > 0 {
			t.Error("got", once[d], "of", gave[d], "by", x, "of", shares)
		}
	}
}

// small is a number from 1 on, of up to 96 bits, so that nothing is over.
func small(r *rand.Rand) api.Num {
	a := api.Num{1 + r.Uint64()>>r.IntN(64)}
	if a[0] == 0 || r.IntN(8) == 0 {
		a[1] = r.Uint64() >> (32 + r.IntN(32))
	}
	if a == (api.Num{}) {
		a[0] = 1
	}
	return a
}

// Shares that come and go between rewards, Settled first: each gets what came while it was there.
func TestP12_3ComeAndGo(t *testing.T) {
	b := start(t).account(1, 1).add(9, 0)
	reward := func(x uint64) {
		t.Helper()
		b.mint(api.Rewards, list{of(0, x)})
		if e := b.deposit(0, list{of(0, x)}); e != api.OK {
			t.Error(e)
		}
		b.look()
		b.owes()
	}
	has := func(addr byte, want uint64) {
		t.Helper()
		b.look()
		b.owes()
		if got := bank.Balance(b.s, addr, 0); got != n(want) {
			t.Error(addr, got, want)
		}
	}
	reward(7) // nobody's
	has(api.Dust, 7)
	b.shares(1, 0, n(2))
	reward(10)
	b.shares(2, 0, n(3)) // of what came so far it gets nothing
	reward(10)
	b.shares(1, 0, n(7)) // Settled: 10 and 4
	has(1, 14)
	reward(10)
	b.shares(2, 0, n(0)) // Settled: 6 and 3
	has(2, 9)
	reward(7)
	b.settle(1, 0) // 7 and 7
	has(1, 28)
	b.shares(1, 0, n(0))
	reward(5) // nobody's again
	has(api.Dust, 12)
	b.shares(2, 0, n(4)) // new again
	reward(4)
	b.settle(2, 0)
	has(2, 13)
	has(1, 28)
	has(api.Rewards, 0)
}

// act does any deed of those that P12.3 names, or one of the layers below that it allows.
func act(b *both, r *rand.Rand, number func(*rand.Rand) api.Num) {
	owner, val := byte(r.IntN(5)), byte(r.IntN(len(b.vals)+1))
	switch k := r.IntN(16); {
	case k < 5:
		l := anyCoins(r, number)
		if filled(bank.Supply(b.s)).with(l, 1).may() {
			b.mint(api.Rewards, l)
			b.deposit(val, l)
		}
	case k < 8 && int(val) < len(b.vals):
		x := number(r)
		if r.IntN(3) == 0 {
			x = api.Num{}
		}
		v, d := b.vals[val], b.dels[pair{owner, val}]
		if sum := new(big.Int).Add(whole(v.Shares), whole(x)); sum.Sub(sum, whole(d.Shares)).BitLen() <= 256 {
			b.shares(owner, val, x)
		}
	case k < 12:
		b.settle(owner, val)
	case k < 14:
		b.commission(val)
	case k < 15 && len(b.vals) < 4:
		b.add(owner, uint16(r.IntN(10001)))
	case int(val) < len(b.vals):
		v := b.vals[val]
		v.Owner, v.Rate, v.Jailed, v.Tokens = owner, uint16(r.IntN(10001)), !v.Jailed, number(r)
		b.val(v)
	}
}

// Any deeds: at all times there is at least what all are due, and what is Earned; so nobody ever goes without for want of funds.
func TestP12_3Any(t *testing.T) {
	r := rand.New(rand.NewPCG(12, 4))
	tiny := func(r *rand.Rand) api.Num { return n(uint64(r.IntN(12))) }
	for i := range 120 {
		number := []func(*rand.Rand) api.Num{tiny, small, edge}[i%3]
		b := start(t).account(1, 2).account(2, 2).account(4, 3).add(1, uint16(r.IntN(10001)))
		for range 60 {
			act(b, r, number)
			b.owes()
			b.look()
		}
		for k := range b.dels {
			if e := b.settle(k.owner, k.val); e != api.OK {
				t.Error(k, e)
			}
		}
		for _, v := range b.vals {
			if e := b.commission(v.Id); e != api.OK {
				t.Error(v, e)
			}
		}
		b.look()
		b.owes()
	}
}

// A store of no pool has neither validators nor delegations.
func TestNil(t *testing.T) {
	for x := range 256 {
		for _, l := range append(wrongLists(), nil, list{of(0, 1)}, full(most)) {
			if e := yield.Deposit(nil, byte(x), l); e != api.ErrNone {
				t.Error(x, l, e)
			}
		}
		for _, val := range []byte{0, 1, 15, 16, 255} {
			if e := yield.Settle(nil, byte(x), val); e != api.ErrNone {
				t.Error(x, val, e)
			}
		}
		if e := yield.Commission(nil, byte(x)); e != api.ErrNone {
			t.Error(x, e)
		}
	}
	if l := yield.Due(api.Validator{}, api.Delegation{}); len(l) != 0 {
		t.Error(l)
	}
}

// What is done in a part that is rolled back isn't done, and stores are apart.
func TestRollback(t *testing.T) {
	b := begun(t).mint(api.Rewards, full(n(50)))
	was := b.s.Copy()
	b.s.Begin()
	for _, s := range []*store.Store{b.s, b.s.Copy()} {
		for _, e := range []api.Errno{yield.Deposit(s, 0, full(n(50))), yield.Settle(s, 1, 0), yield.Settle(s, 5, 1), yield.Commission(s, 0), yield.Deposit(s, 1, nil)} {
			if e != api.OK {
				t.Error(e)
			}
		}
	}
	if store.Same(b.s, was) || b.s.Depth() != 1 {
		t.Error("nothing is done", b.s.Depth())
	}
	b.s.Rollback()
	if !store.Same(b.s, was) {
		t.Error("it isn't as it was")
	}
	b.look()
}

// Keys of others in the same store aren't touched, and none is made but those of the layers below.
func TestOthers(t *testing.T) {
	b := begun(t)
	for _, key := range []string{"", "a", "y", "yield", "yield.", "z", "\x00", "\xff"} {
		b.s.Set([]byte(key), []byte{7})
	}
	before := b.s.Len()
	b.settle(1, 0) // a balance of 0 and of 3 comes at 2
	b.settle(1, 0)
	b.settle(1, 1)
	b.commission(0)
	b.look()
	if b.s.Len() != before+2 {
		t.Error(b.s.Len(), before)
	}
	for _, key := range []string{"", "a", "y", "yield", "yield.", "z", "\x00", "\xff"} {
		if v, ok := b.s.Get([]byte(key)); !ok || !slices.Equal(v, []byte{7}) {
			t.Errorf("%q: %v", key, v)
		}
	}
}

// P1: whatever lists there are, each call ends, and none panics.
func TestP1AnyLists(t *testing.T) {
	l := append(wrongLists(), nil, full(most), make(list, 1<<12), slices.Repeat(full(most), 20))
	for _, x := range l {
		for _, y := range l {
			yield.Due(api.Validator{Shares: most, Index: x, Earned: y}, api.Delegation{Shares: most, Index: y})
		}
	}
}

// P1: whatever others have laid where layers 9 to 11 keep what they have, each call ends, and none panics.
func TestP1AnyStore(t *testing.T) {
	r := rand.New(rand.NewPCG(12, 5))
	for range 300 {
		b := begun(t)
		for _, key := range b.s.Keys(nil) {
			value, _ := b.s.Get(key)
			switch r.IntN(5) {
			case 0:
				b.s.Set(key, value[:r.IntN(len(value)+1)])
			case 1:
				b.s.Set(key[:r.IntN(len(key)+1)], value)
			case 2:
				b.s.Delete(key)
			case 3:
				value[r.IntN(len(value))] = byte(r.Uint32())
				b.s.Set(key, value)
			}
		}
		for range 10 {
			val := byte(r.IntN(3))
			yield.Deposit(b.s, val, anyCoins(r, edge))
			yield.Deposit(b.s, val, list{of(0, 1)})
			yield.Settle(b.s, byte(r.IntN(8)), val)
			yield.Commission(b.s, val)
		}
	}
}
