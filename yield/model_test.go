package yield_test

import (
	"cmp"
	"fmt"
	"maps"
	"math/big"
	"slices"
	"strings"
	"testing"

	"jointure/api"
	"jointure/bank"
	"jointure/person"
	"jointure/pool"
	"jointure/store"
	"jointure/yield"
)

const top = 1<<64 - 1

var (
	most = api.Num{top, top, top, top}
	less = api.Num{top - 1, top, top, top}
	step = api.Num{0, 1} // an index of 1 for each share
)

type list = []api.Coin

func n(x uint64) api.Num { return api.Num{x} }

// of is a coin of x.
func of(denom byte, x uint64) api.Coin { return api.Coin{Denom: denom, N: n(x)} }

// so is a coin of any x.
func so(denom byte, x api.Num) api.Coin { return api.Coin{Denom: denom, N: x} }

// full is x of each denomination.
func full(x api.Num) list {
	var l list
	for d := range byte(api.MaxDenom) {
		l = append(l, so(d, x))
	}
	return l
}

// wrongLists are some that aren't Right.
func wrongLists() []list {
	return []list{
		{{}}, {of(3, 0)}, {of(0, 1), of(1, 0)}, {of(0, 0), of(1, 1)}, {of(8, 1)}, {of(255, 1)}, {of(7, 1), of(8, 1)},
		{of(1, 1), of(1, 1)}, {of(1, 1), of(0, 1)}, {of(0, 1), of(2, 1), of(1, 1)}, append(full(n(1)), of(8, 1)), make(list, 300),
	}
}

// right is what P2.1 says of a list.
func right(l list) bool {
	for i, c := range l {
		if c.Denom > 7 || c.N == (api.Num{}) || i > 0 && l[i-1].Denom >= c.Denom {
			return false
		}
	}
	return true
}

// lend is a list that shares nothing with l, and has room behind it.
func lend(l list) list { return append(slices.Clone(l), of(5, 55), of(6, 66))[:len(l)] }

// untouched is whether what was lent is as it was, with the room behind it.
func untouched(lent, l list) bool {
	return slices.Equal(lent[:len(l)+2], append(slices.Clone(l), of(5, 55), of(6, 66)))
}

// paint writes over lists, and over the room behind them.
func paint(lists ...list) {
	for _, l := range lists {
		for i := range l[:cap(l)] {
			l[:cap(l)][i] = of(4, 44)
		}
	}
}

// whole is a number as the library's own.
func whole(a api.Num) *big.Int {
	x := new(big.Int)
	for i := 3; i >= 0; i-- {
		x.Or(x.Lsh(x, 64), new(big.Int).SetUint64(a[i]))
	}
	return x
}

// back is the number of the library's own, which has 256 bits.
func back(x *big.Int) (a api.Num) {
	for i := range a {
		a[i] = new(big.Int).And(new(big.Int).Rsh(x, uint(64*i)), new(big.Int).SetUint64(top)).Uint64()
	}
	return a
}

// up is a by b, rounded up.
func up(a, b *big.Int) *big.Int {
	q, r := new(big.Int).QuoRem(a, b, new(big.Int))
	return q.Add(q, big.NewInt(int64(r.Sign())))
}

// A purse is how much there is of each denomination.
type purse [api.MaxDenom]*big.Int

// filled is one of just l.
func filled(l list) (p purse) {
	for d := range p {
		p[d] = new(big.Int)
	}
	return p.with(l, 1)
}

// with is what a purse comes to with l more, by 1, or less, by -1.
func (p purse) with(l list, sign int64) (sum purse) {
	for d := range sum {
		sum[d] = new(big.Int).Set(p[d])
	}
	for _, c := range l {
		sum[c.Denom].Add(sum[c.Denom], new(big.Int).Mul(big.NewInt(sign), whole(c.N)))
	}
	return sum
}

// may is whether there may be as much: nothing below 0, nothing above what a number can be.
func (p purse) may() bool {
	return !slices.ContainsFunc(p[:], func(x *big.Int) bool { return x.Sign() < 0 || x.BitLen() > 256 })
}

// coins are what is in it.
func (p purse) coins() (l list) {
	for d, x := range p {
		if x.Sign() != 0 {
			l = append(l, so(byte(d), back(x)))
		}
	}
	return l
}

// A pair is the owner and the validator of a delegation.
type pair struct{ owner, val byte }

// A both is a store with all that layers 9 to 12 keep, and what the document says that it is.
type both struct {
	t     *testing.T
	s     *store.Store
	vals  []api.Validator
	dels  map[pair]api.Delegation
	pays  map[byte]byte
	has   map[byte]purse
	steps []string
}

func start(t *testing.T) *both {
	return &both{t: t, s: store.New(), dels: map[pair]api.Delegation{}, pays: map[byte]byte{}, has: map[byte]purse{}}
}

// wrong tells a fault, and which steps went ahead of it.
func (b *both) wrong(what string, more ...any) {
	b.t.Helper()
	b.t.Fatalf("behind %s: %s %v", strings.Join(b.steps, ", "), what, more)
}

// did notes a step, and holds what it answered against what it should.
func (b *both) did(e, want api.Errno, what ...any) api.Errno {
	b.t.Helper()
	b.steps = append(b.steps, fmt.Sprint(what...))
	if e != want {
		b.wrong("it answers", e, "want", want)
	}
	return e
}

// of is what an address has.
func (b *both) of(addr byte) purse {
	if p, ok := b.has[addr]; ok {
		return p
	}
	return filled(nil)
}

// account, mint, add, val and del say what there is, by the layers below.
func (b *both) account(addr, pay byte) *both {
	b.t.Helper()
	b.pays[addr] = pay
	b.did(person.New(b.s, api.Account{Addr: addr, Pay: pay, Seq: 9, Hold: api.Hold{Kept: n(3), Free: n(4)}}), api.OK, "New ", addr, " ", pay)
	return b
}

func (b *both) mint(addr byte, l list) *both {
	b.t.Helper()
	b.has[addr] = b.of(addr).with(l, 1)
	b.did(bank.Mint(b.s, addr, l), api.OK, "Mint ", addr, l)
	return b
}

func (b *both) add(owner byte, rate uint16) *both {
	b.t.Helper()
	id, e := pool.Add(b.s, owner, rate)
	b.vals = append(b.vals, api.Validator{Id: id, Owner: owner, Rate: rate})
	b.did(e, api.OK, "Add ", owner, " ", rate)
	return b
}

func (b *both) val(v api.Validator) *both {
	b.t.Helper()
	b.vals[v.Id] = v
	b.did(pool.SetVal(b.s, v), api.OK, "SetVal ", v)
	return b
}

func (b *both) del(d api.Delegation) *both {
	b.t.Helper()
	k := pair{d.Owner, d.Val}
	b.dels[k] = d
	if d.Shares == (api.Num{}) {
		delete(b.dels, k)
	}
	b.did(pool.Set(b.s, d), api.OK, "Set ", d)
	return b
}

// shares makes the shares of a delegation so many, as P12.3 asks for it: Settled ahead, and new ones with the validator's Index.
func (b *both) shares(owner, val byte, x api.Num) *both {
	b.t.Helper()
	v := b.vals[val]
	d, there := b.dels[pair{owner, val}]
	if there {
		if e := b.settle(owner, val); e != api.OK {
			b.wrong("Settle ahead of a change", e)
		}
	}
	sum := new(big.Int).Add(new(big.Int).Sub(whole(v.Shares), whole(d.Shares)), whole(x))
	v.Shares = back(sum)
	return b.val(v).del(api.Delegation{Owner: owner, Val: val, Shares: x, Index: v.Index})
}

// due is what P12.1 says of a delegation.
func due(v api.Validator, d api.Delegation) list {
	index, own, sum := filled(v.Index), filled(d.Index), filled(nil)
	for denom := range sum {
		more := new(big.Int).Sub(index[denom], own[denom])
		more.Mul(more, whole(d.Shares)).Div(more, whole(step))
		if more.Sign() > 0 && more.BitLen() <= 256 {
			sum[denom] = more
		}
	}
	return sum.coins()
}

// earn is what P12.1 says that a validator is behind a deposit, and what goes to Dust. False: a number would be more than it can be.
func earn(v api.Validator, l list) (api.Validator, list, bool) {
	if v.Shares == (api.Num{}) {
		return v, l, true
	}
	index, earned, dust := filled(v.Index), filled(v.Earned), filled(nil)
	for _, c := range l {
		rest := whole(c.N)
		part := new(big.Int).Mul(rest, big.NewInt(int64(v.Rate)))
		part.Div(part, big.NewInt(10000))
		rest.Sub(rest, part)
		rise := new(big.Int).Lsh(rest, 64)
		rise.Div(rise, whole(v.Shares))
		stays := up(new(big.Int).Mul(rise, whole(v.Shares)), whole(step))
		earned[c.Denom].Add(earned[c.Denom], part)
		index[c.Denom].Add(index[c.Denom], rise)
		dust[c.Denom].Sub(rest, stays)
	}
	if !index.may() || !earned.may() {
		return v, nil, false
	}
	v.Index, v.Earned = index.coins(), earned.coins()
	return v, dust.coins(), true
}

// move is what goes from Rewards to an address; false: there isn't as much, and nothing goes.
func (b *both) move(to byte, l list) bool {
	left := b.of(api.Rewards).with(l, -1)
	if left.may() {
		b.has[api.Rewards] = left
		b.has[to] = b.of(to).with(l, 1)
	}
	return left.may()
}

// pay is where an owner's rewards go.
func (b *both) pay(owner byte) byte {
	if to, there := b.pays[owner]; there {
		return to
	}
	return owner
}

// deposit, settle and commission do a deed, and hold its answer against what the document says.
func (b *both) deposit(val byte, l list) api.Errno {
	b.t.Helper()
	want := api.OK
	if int(val) >= len(b.vals) {
		want = api.ErrNone
	} else if !right(l) {
		want = api.ErrArg
	} else if v, dust, ok := earn(b.vals[val], l); !ok {
		want = api.ErrOver
	} else if !b.of(api.Rewards).with(l, -1).may() {
		want = api.ErrFunds
	} else {
		b.vals[val] = v
		b.move(api.Dust, dust)
	}
	lent := lend(l)
	b.did(yield.Deposit(b.s, val, lent), want, "Deposit ", val, l)
	if !untouched(lent, l) {
		b.wrong("written into what was handed in", lent)
	}
	paint(lent)
	return want
}

func (b *both) settle(owner, val byte) api.Errno {
	b.t.Helper()
	want := api.OK
	if d, there := b.dels[pair{owner, val}]; !there {
		want = api.ErrNone
	} else if !b.move(b.pay(owner), due(b.vals[val], d)) {
		want = api.ErrFunds
	} else {
		d.Index = b.vals[val].Index
		b.dels[pair{owner, val}] = d
	}
	return b.did(yield.Settle(b.s, owner, val), want, "Settle ", owner, " ", val)
}

func (b *both) commission(val byte) api.Errno {
	b.t.Helper()
	want := api.OK
	if int(val) >= len(b.vals) {
		want = api.ErrNone
	} else if v := b.vals[val]; !b.move(b.pay(v.Owner), v.Earned) {
		want = api.ErrFunds
	} else {
		b.vals[val].Earned = nil
	}
	return b.did(yield.Commission(b.s, val), want, "Commission ", val)
}

// look holds all that the store has against what it should have.
func (b *both) look() {
	b.t.Helper()
	vals := pool.Vals(b.s)
	if !slices.EqualFunc(vals, b.vals, sameVal) {
		b.wrong("Vals", vals, "want", b.vals)
	}
	dels := slices.SortedFunc(maps.Values(b.dels), func(d, e api.Delegation) int {
		return cmp.Or(cmp.Compare(d.Owner, e.Owner), cmp.Compare(d.Val, e.Val))
	})
	if l := pool.All(b.s); !slices.EqualFunc(l, dels, sameDel) {
		b.wrong("All", l, "want", dels)
	}
	for _, d := range dels {
		b.askDue(b.vals[d.Val], d)
	}
	var all []api.Balance
	for addr := range byte(api.Dust + 1) {
		if l := b.of(addr).coins(); len(l) > 0 {
			all = append(all, api.Balance{Addr: addr, Coins: l})
		}
	}
	if l := bank.All(b.s); !slices.EqualFunc(l, all, func(x, y api.Balance) bool { return x.Addr == y.Addr && slices.Equal(x.Coins, y.Coins) }) {
		b.wrong("balances", l, "want", all)
	}
	b.lookAccounts()
}

// lookAccounts is whether no account came, went or changed.
func (b *both) lookAccounts() {
	b.t.Helper()
	l := person.All(b.s)
	if len(l) != len(b.pays) {
		b.wrong("accounts", l, "want", b.pays)
	}
	for _, a := range l {
		pay, there := b.pays[a.Addr]
		if !there || a.Pay != pay || a.Seq != 9 || a.Hold != (api.Hold{Kept: n(3), Free: n(4)}) || a.Plan.Kind != api.None || a.Funder != 0 {
			b.wrong("account", a)
		}
	}
}

// askDue holds Due against what it should be, with lists that were lent, and writes over what it answers, and over what it was handed.
func (b *both) askDue(v api.Validator, d api.Delegation) list {
	b.t.Helper()
	want := due(v, d)
	index, earned, own := v.Index, v.Earned, d.Index
	for range 2 {
		v.Index, v.Earned, d.Index = lend(index), lend(earned), lend(own)
		got := yield.Due(v, d)
		if !slices.Equal(got, want) || !right(got) {
			b.wrong("Due", v, d, "is", got, "want", want)
		}
		paint(got)
		if !untouched(v.Index, index) || !untouched(v.Earned, earned) || !untouched(d.Index, own) {
			b.wrong("Due writes into what it was handed, or shares its answer with it", v, d)
		}
		again := yield.Due(v, d)
		paint(v.Index, v.Earned, d.Index)
		if !slices.Equal(again, want) {
			b.wrong("Due hands out what it keeps, or keeps what it was handed", again)
		}
	}
	return want
}

// owes holds what the module Rewards has against what all are due, and what is Earned.
func (b *both) owes() {
	b.t.Helper()
	left := filled(bank.Coins(b.s, api.Rewards))
	for _, d := range pool.All(b.s) {
		v, _ := pool.Val(b.s, d.Val)
		left = left.with(yield.Due(v, d), -1)
	}
	for _, v := range pool.Vals(b.s) {
		left = left.with(v.Earned, -1)
	}
	if !left.may() {
		b.wrong("the module has too little by", left)
	}
}

func sameVal(a, b api.Validator) bool {
	return a.Id == b.Id && a.Owner == b.Owner && a.Rate == b.Rate && a.Jailed == b.Jailed && a.Tokens == b.Tokens && a.Shares == b.Shares &&
		slices.Equal(a.Index, b.Index) && slices.Equal(a.Earned, b.Earned)
}

func sameDel(a, b api.Delegation) bool {
	return a.Owner == b.Owner && a.Val == b.Val && a.Shares == b.Shares && slices.Equal(a.Index, b.Index)
}

// nothing is done by a deed that answers so.
func (b *both) nothing(want api.Errno, deed func() api.Errno) {
	b.t.Helper()
	was := b.s.Copy()
	b.s.Begin()
	e := deed()
	if e != want {
		b.wrong("it answers", e, "want", want)
	}
	if !store.Same(b.s, was) || b.s.Depth() != 1 {
		b.wrong("something is done", b.s.Depth())
	}
	b.s.Commit()
	b.look()
}
