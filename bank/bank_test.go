package bank_test

import (
	"fmt"
	"math/big"
	"math/rand/v2"
	"slices"
	"strings"
	"testing"

	"jointure/api"
	"jointure/bank"
	"jointure/store"
)

const top = 1<<64 - 1

var (
	most = api.Num{top, top, top, top}
	less = api.Num{top - 1, top, top, top}
	half = api.Num{0, 0, 0, 1 << 63}
)

type list = []api.Coin

func n(x uint64) api.Num { return api.Num{x} }

// of is a coin of x.
func of(denom byte, x uint64) api.Coin { return api.Coin{Denom: denom, N: api.Num{x}} }

// one is x of Stake alone.
func one(x api.Num) list { return list{{Denom: api.Stake, N: x}} }

// full is x of each denomination.
func full(x api.Num) list {
	var l list
	for d := range byte(api.MaxDenom) {
		l = append(l, api.Coin{Denom: d, N: x})
	}
	return l
}

// wrong are lists that aren't Right.
func wrong() []list {
	return []list{
		{{}}, {of(3, 0)}, {of(0, 1), of(1, 0)}, {of(0, 0), of(1, 1)},
		{of(8, 1)}, {of(255, 1)}, {of(0, 1), of(8, 1)}, append(full(n(1)), of(8, 1)),
		{of(1, 1), of(1, 1)}, {of(0, 1), of(0, 1)}, {of(1, 1), of(0, 1)}, {of(2, 9), of(0, 9)},
		append(full(n(1)), full(n(1))...), make(list, 300),
	}
}

// addresses are those that are one, by the numbers of the document.
func addresses() []byte {
	var l []byte
	for addr := range byte(205) {
		l = append(l, addr)
	}
	return l
}

// whole is a number as the library's own.
func whole(a api.Num) *big.Int {
	x := new(big.Int)
	for i := 3; i >= 0; i-- {
		x.Or(x.Lsh(x, 64), new(big.Int).SetUint64(a[i]))
	}
	return x
}

// back is the number of the library's own, which has 256 bits.
func back(x *big.Int) (a api.Num) {
	for i := range a {
		a[i] = new(big.Int).And(new(big.Int).Rsh(x, uint(64*i)), new(big.Int).SetUint64(top)).Uint64()
	}
	return a
}

// A purse is how much there is of each denomination.
type purse [api.MaxDenom]*big.Int

// empty is one of nothing.
func empty() (p purse) {
	for d := range p {
		p[d] = new(big.Int)
	}
	return p
}

// with is what a purse comes to with l more, by 1, or less, by -1.
func (p purse) with(l list, sign int64) purse {
	sum := empty()
	for d := range sum {
		sum[d].Set(p[d])
	}
	for _, c := range l {
		sum[c.Denom].Add(sum[c.Denom], new(big.Int).Mul(big.NewInt(sign), whole(c.N)))
	}
	return sum
}

// may is whether there may be as much: nothing below 0, nothing above what a number can be.
func (p purse) may() bool {
	return !slices.ContainsFunc(p[:], func(x *big.Int) bool { return x.Sign() < 0 || x.BitLen() > 256 })
}

// coins are what is in it.
func (p purse) coins() (l list) {
	for d, x := range p {
		if x.Sign() != 0 {
			l = append(l, api.Coin{Denom: byte(d), N: back(x)})
		}
	}
	return l
}

// A both is a store with a bank, and what P9.1 and P9.2 say that it is.
type both struct {
	t      *testing.T
	s      *store.Store
	has    map[byte]purse
	supply purse
	steps  []string
}

func start(t *testing.T) *both {
	return &both{t: t, s: store.New(), has: map[byte]purse{}, supply: empty()}
}

// wrong tells a fault, and which steps went ahead of it.
func (b *both) wrong(what string, more ...any) {
	b.t.Helper()
	b.t.Fatalf("behind %s: %s %v", strings.Join(b.steps, ", "), what, more)
}

// of is what an address has.
func (b *both) of(addr byte) purse {
	if p, ok := b.has[addr]; ok {
		return p
	}
	return empty()
}

// isRight is what P2.1 says of a list.
func isRight(l list) bool {
	for i, c := range l {
		if c.Denom > 7 || c.N == n(0) || i > 0 && l[i-1].Denom >= c.Denom {
			return false
		}
	}
	return true
}

// did holds what a deed answered against what it should, lends it its list with room behind, and writes over that.
func (b *both) did(what string, deed func(l list) api.Errno, l list, want api.Errno) api.Errno {
	b.t.Helper()
	b.steps = append(b.steps, what)
	behind := of(7, 77)
	lent := append(slices.Clone(l), behind, behind)
	if e := deed(lent[:len(l)]); e != want {
		b.wrong("it answers", e, "want", want)
	}
	if !slices.Equal(lent, append(slices.Clone(l), behind, behind)) {
		b.wrong("written into what was handed in", lent)
	}
	for i := range lent {
		lent[i] = of(5, 55)
	}
	return want
}

func (b *both) send(from, to byte, l list) api.Errno {
	b.t.Helper()
	e := api.OK
	if from > 204 || to > 204 || !isRight(l) {
		e = api.ErrArg
	} else if !b.of(from).with(l, -1).may() {
		e = api.ErrFunds
	} else {
		b.has[from] = b.of(from).with(l, -1)
		b.has[to] = b.of(to).with(l, 1)
	}
	return b.did(fmt.Sprint("Send ", from, to, l), func(l list) api.Errno { return bank.Send(b.s, from, to, l) }, l, e)
}

func (b *both) mint(to byte, l list) api.Errno {
	b.t.Helper()
	e := api.OK
	if to > 204 || !isRight(l) {
		e = api.ErrArg
	} else if !b.supply.with(l, 1).may() {
		e = api.ErrOver
	} else {
		b.supply = b.supply.with(l, 1)
		b.has[to] = b.of(to).with(l, 1)
	}
	return b.did(fmt.Sprint("Mint ", to, l), func(l list) api.Errno { return bank.Mint(b.s, to, l) }, l, e)
}

func (b *both) burn(from byte, l list) api.Errno {
	b.t.Helper()
	e := api.OK
	if from > 204 || !isRight(l) {
		e = api.ErrArg
	} else if !b.of(from).with(l, -1).may() {
		e = api.ErrFunds
	} else {
		b.supply = b.supply.with(l, -1)
		b.has[from] = b.of(from).with(l, -1)
	}
	return b.did(fmt.Sprint("Burn ", from, l), func(l list) api.Errno { return bank.Burn(b.s, from, l) }, l, e)
}

// scribble writes over a list that was answered, and over the room behind it.
func scribble(l list) {
	for i := range l[:cap(l)] {
		l[:cap(l)][i] = of(6, 66)
	}
}

// lookAt holds what is told of an address against what it has.
func (b *both) lookAt(addr byte) {
	b.t.Helper()
	p := b.of(addr)
	for d, want := range p {
		if x := bank.Balance(b.s, addr, byte(d)); x != back(want) {
			b.wrong("Balance", addr, d, x)
		}
	}
	for _, d := range []byte{8, 9, 128, 255} { // there are no such ones
		if x := bank.Balance(b.s, addr, d); x != n(0) {
			b.wrong("Balance", addr, d, x)
		}
	}
	l := bank.Coins(b.s, addr)
	if !slices.Equal(l, p.coins()) {
		b.wrong("Coins", addr, l)
	}
	scribble(l)
}

// look holds what is told of all against what there is, and all balances together against the supply.
func (b *both) look() {
	b.t.Helper()
	l := bank.Supply(b.s)
	if !slices.Equal(l, b.supply.coins()) {
		b.wrong("Supply", l)
	}
	scribble(l)
	sum := empty()
	all := bank.All(b.s)
	for _, addr := range addresses() {
		want := b.of(addr).coins()
		if len(want) == 0 {
			continue
		}
		if len(all) == 0 || all[0].Addr != addr || !slices.Equal(all[0].Coins, want) {
			b.wrong("All", addr, all)
		}
		sum = sum.with(all[0].Coins, 1)
		scribble(all[0].Coins) // none of those behind it may change
		all = all[1:]
	}
	if len(all) > 0 {
		b.wrong("All has more", all)
	}
	if !slices.Equal(sum.coins(), b.supply.coins()) {
		b.wrong("all together aren't the supply", sum.coins())
	}
}

// lookEverywhere looks at all, and at each address, and at all that aren't any.
func (b *both) lookEverywhere() {
	b.t.Helper()
	b.look()
	for addr := range 256 {
		b.lookAt(byte(addr))
	}
	b.look()
}

// begun is a both in which four have something: one of Stake alone, two of several denominations, one of all, a module among them.
func begun(t *testing.T) *both {
	b := start(t)
	b.mint(200, list{of(0, 9), of(7, 1)})
	b.mint(7, one(n(5)))
	b.mint(1, full(n(10)))
	b.mint(199, list{of(2, 4), of(3, 300), of(5, 1)})
	return b
}

func TestExample(t *testing.T) {
	b := start(t)
	b.mint(1, one(n(5)))
	b.send(1, 3, one(n(2)))
	b.burn(3, one(n(1)))
	if l := bank.Supply(b.s); !slices.Equal(l, one(n(4))) {
		t.Error(l)
	}
	b.lookEverywhere()
}

func TestP9_1Is(t *testing.T) {
	for addr := range 256 {
		account, module := addr < 200, addr == 200 || addr == 201 || addr == 202 || addr == 203 || addr == 204
		if bank.Is(byte(addr)) != (account || module) {
			t.Error(addr)
		}
	}
	for _, addr := range []byte{api.Bonded, api.Leaving, api.Rewards, api.Fees, api.Dust, api.MaxAddr - 1} {
		if !bank.Is(addr) {
			t.Error(addr)
		}
	}
}

// What each address has is told by its own call and among all, rising, whichever way it came there.
func TestP9_1Tell(t *testing.T) {
	b := start(t)
	b.lookEverywhere() // nothing
	b.mint(9, nil)
	b.lookEverywhere() // nothing, still
	b = begun(t)
	b.lookEverywhere()
	for _, c := range []struct {
		addr byte
		want list
	}{
		{0, nil}, {7, one(n(5))}, {200, list{of(0, 9), of(7, 1)}}, {199, list{of(2, 4), of(3, 300), of(5, 1)}}, {1, full(n(10))}, {205, nil}, {255, nil},
	} {
		if l := bank.Coins(b.s, c.addr); !slices.Equal(l, c.want) {
			t.Error(c, l)
		}
	}
	if l, want := bank.Supply(b.s), (list{of(0, 24), of(1, 10), of(2, 14), of(3, 310), of(4, 10), of(5, 11), of(6, 10), of(7, 11)}); !slices.Equal(l, want) {
		t.Error(l)
	}
	var order []byte
	for _, x := range bank.All(b.s) {
		order = append(order, x.Addr)
	}
	if !slices.Equal(order, []byte{1, 7, 199, 200}) {
		t.Error(order)
	}
}

// Each address and each denomination has a place of its own.
func TestP9_1Each(t *testing.T) {
	b := start(t)
	l := addresses()
	for i := range l {
		addr := l[len(l)-1-i] // falling, so that All has to put them in order
		b.mint(addr, list{of(addr%8, uint64(1000+i))})
		b.mint(addr, list{of(7-addr%8, uint64(1+i))})
	}
	b.lookEverywhere()
	if all := bank.All(b.s); len(all) != 205 {
		t.Error(len(all))
	}
}

// What an address has by several deeds, from denominations that don't come in order.
func TestP9_1Order(t *testing.T) {
	b := start(t)
	for _, d := range []byte{5, 0, 7, 2, 6, 1, 4, 3} {
		b.mint(3, list{of(d, 1+uint64(d))})
		b.lookAt(3)
		b.look()
	}
	for _, d := range []byte{4, 7, 0, 3, 1, 6, 2, 5} {
		b.send(3, 2, list{of(d, 1+uint64(d))})
		b.lookAt(2)
		b.lookAt(3)
		b.look()
	}
}

func TestP9_2Send(t *testing.T) {
	for _, c := range []struct {
		from, to byte
		l        list
		e        api.Errno
	}{
		// from one to another one: to one that has something, and to one that has nothing
		{1, 7, one(n(2)), api.OK}, {1, 8, one(n(2)), api.OK}, {7, 1, one(n(2)), api.OK}, {1, 199, list{of(1, 10), of(2, 1), of(7, 9)}, api.OK},
		{1, 200, one(n(2)), api.OK}, {200, 204, list{of(7, 1)}, api.OK}, {200, 0, one(n(9)), api.OK},
		// all that there is, and one more; of one denomination, and of several
		{7, 1, one(n(5)), api.OK}, {7, 1, one(n(6)), api.ErrFunds}, {1, 0, full(n(10)), api.OK}, {1, 0, full(n(11)), api.ErrFunds},
		{1, 7, append(full(n(10))[:7], of(7, 11)), api.ErrFunds}, {1, 7, append(list{of(0, 11)}, full(n(10))[1:]...), api.ErrFunds}, {199, 7, list{of(2, 4), of(3, 301), of(5, 1)}, api.ErrFunds},
		{7, 1, one(most), api.ErrFunds},
		// of what it hasn't at all
		{7, 1, list{of(1, 1)}, api.ErrFunds}, {7, 1, list{of(0, 1), of(7, 1)}, api.ErrFunds}, {0, 1, one(n(1)), api.ErrFunds}, {204, 200, one(n(1)), api.ErrFunds},
		// to itself: some, as much as it has, more
		{7, 7, one(n(1)), api.OK}, {7, 7, one(n(5)), api.OK}, {7, 7, one(n(6)), api.ErrFunds}, {1, 1, full(n(10)), api.OK}, {1, 1, full(n(11)), api.ErrFunds},
		{200, 200, list{of(0, 9), of(7, 1)}, api.OK}, {200, 200, list{of(0, 9), of(7, 2)}, api.ErrFunds}, {0, 0, one(n(1)), api.ErrFunds}, {7, 7, list{of(1, 1)}, api.ErrFunds},
		// of no coins
		{1, 7, nil, api.OK}, {1, 8, list{}, api.OK}, {0, 8, nil, api.OK}, {7, 7, nil, api.OK}, {0, 0, nil, api.OK}, {0, 7, list{}, api.OK},
		// one is no address
		{205, 7, one(n(1)), api.ErrArg}, {255, 7, nil, api.ErrArg}, {1, 205, one(n(1)), api.ErrArg}, {1, 255, nil, api.ErrArg}, {205, 205, nil, api.ErrArg}, {250, 255, one(n(1)), api.ErrArg},
		// ErrArg is ahead of ErrFunds
		{0, 205, one(n(1)), api.ErrArg}, {7, 205, one(n(6)), api.ErrArg}, {205, 7, one(most), api.ErrArg}, {7, 1, list{of(0, 6), of(0, 6)}, api.ErrArg}, {7, 7, list{of(1, 1), of(0, 1)}, api.ErrArg},
		{0, 0, list{of(0, 1), of(8, 1)}, api.ErrArg}, {0, 7, list{{}}, api.ErrArg},
	} {
		b := begun(t)
		if e := b.send(c.from, c.to, c.l); e != c.e {
			t.Error(c, e)
		}
		b.lookEverywhere()
	}
}

func TestP9_2Mint(t *testing.T) {
	for _, c := range []struct {
		to byte
		l  list
		e  api.Errno
	}{
		{1, one(n(1)), api.OK}, {8, one(n(1)), api.OK}, {199, list{of(1, 1), of(2, 1), of(7, 1)}, api.OK}, {204, full(n(1)), api.OK}, {0, one(n(1)), api.OK},
		{1, nil, api.OK}, {8, list{}, api.OK},
		// up to the greatest number, and one more: the supply has 24 of 0, and 310 of 3
		{7, one(api.Num{top - 24, top, top, top}), api.OK}, {7, one(api.Num{top - 23, top, top, top}), api.ErrOver}, {8, one(api.Num{top - 24, top, top, top}), api.OK}, {8, one(api.Num{top - 23, top, top, top}), api.ErrOver},
		{8, one(most), api.ErrOver}, {8, one(less), api.ErrOver}, {200, list{{Denom: 3, N: api.Num{top - 310, top, top, top}}}, api.OK}, {200, list{{Denom: 3, N: api.Num{top - 309, top, top, top}}}, api.ErrOver},
		// of one denomination alone, the first, the last, one in between
		{8, append(list{{Denom: 0, N: most}}, full(n(1))[1:]...), api.ErrOver}, {8, append(full(n(1))[:7], api.Coin{Denom: 7, N: most}), api.ErrOver}, {1, list{of(1, 1), {Denom: 2, N: most}, of(3, 1)}, api.ErrOver}, {1, full(most), api.ErrOver},
		// no address, and that ahead of ErrOver
		{205, one(n(1)), api.ErrArg}, {255, nil, api.ErrArg}, {205, one(most), api.ErrArg}, {255, full(most), api.ErrArg},
		{1, list{{Denom: 0, N: most}, {Denom: 0, N: most}}, api.ErrArg}, {1, list{{Denom: 1, N: most}, {Denom: 0, N: most}}, api.ErrArg}, {8, list{{Denom: 0, N: most}, {Denom: 8, N: most}}, api.ErrArg}, {8, list{{Denom: 0, N: most}, {Denom: 1}}, api.ErrArg},
	} {
		b := begun(t)
		if e := b.mint(c.to, c.l); e != c.e {
			t.Error(c, e)
		}
		b.lookEverywhere()
	}
}

// The greatest number of each denomination: of one address, of two, and what can be done with it.
func TestP9_2MintMost(t *testing.T) {
	b := start(t)
	for _, e := range []api.Errno{
		b.mint(1, full(most)), b.send(1, 2, full(half)), b.send(2, 1, full(n(1))), b.send(1, 1, full(half)), b.burn(1, full(n(1))), b.mint(3, full(n(1))), b.send(1, 2, full(n(1))),
	} {
		if e != api.OK {
			t.Error(e)
		}
		b.lookEverywhere()
	}
	if b.mint(3, full(n(1))) != api.ErrOver || b.mint(9, list{of(7, 1)}) != api.ErrOver || b.send(1, 2, full(half)) != api.ErrFunds || b.burn(2, full(most)) != api.ErrFunds {
		t.Error("more than there is, or can be")
	}
	b.lookEverywhere()
	for _, addr := range []byte{1, 3, 2} {
		b.send(addr, 204, bank.Coins(b.s, addr))
	}
	if b.send(204, 204, full(most)) != api.OK || b.burn(204, full(most)) != api.OK {
		t.Error("not all of it is there")
	}
	b.lookEverywhere()
}

func TestP9_2Burn(t *testing.T) {
	for _, c := range []struct {
		from byte
		l    list
		e    api.Errno
	}{
		{1, one(n(1)), api.OK}, {1, full(n(3)), api.OK}, {199, list{of(2, 1), of(3, 299)}, api.OK}, {1, nil, api.OK}, {0, list{}, api.OK},
		// all, and one more
		{7, one(n(5)), api.OK}, {7, one(n(6)), api.ErrFunds}, {1, full(n(10)), api.OK}, {1, full(n(11)), api.ErrFunds}, {200, list{of(0, 9), of(7, 1)}, api.OK}, {200, list{of(0, 9), of(7, 2)}, api.ErrFunds},
		{200, list{of(0, 10), of(7, 1)}, api.ErrFunds}, {199, list{of(2, 4), of(3, 301), of(5, 1)}, api.ErrFunds},
		// as much is in the supply, but not there
		{7, one(n(24)), api.ErrFunds}, {0, one(n(1)), api.ErrFunds}, {7, list{of(1, 1)}, api.ErrFunds}, {199, one(n(1)), api.ErrFunds},
		{7, one(n(25)), api.ErrFunds}, {7, one(most), api.ErrFunds}, {1, full(most), api.ErrFunds},
		// no address, and that ahead of ErrFunds
		{205, one(n(1)), api.ErrArg}, {255, nil, api.ErrArg}, {206, one(most), api.ErrArg},
		{7, list{of(0, 6), of(0, 6)}, api.ErrArg}, {0, list{of(1, 1), of(0, 1)}, api.ErrArg}, {0, list{of(0, 1), of(8, 1)}, api.ErrArg}, {0, list{of(0, 1), {Denom: 1}}, api.ErrArg},
	} {
		b := begun(t)
		if e := b.burn(c.from, c.l); e != c.e {
			t.Error(c, e)
		}
		b.lookEverywhere()
	}
}

// Of all addresses, and of all lists that aren't Right, whether there would be enough or not.
func TestP9_2ErrArg(t *testing.T) {
	b := begun(t)
	was := b.s.Copy()
	for _, l := range wrong() {
		for _, from := range []byte{1, 0, 200, 204, 255} {
			for _, to := range []byte{7, 0, 200, 205} {
				if b.send(from, to, l) != api.ErrArg {
					t.Error("Send", from, to, l)
				}
			}
			if b.mint(from, l) != api.ErrArg || b.burn(from, l) != api.ErrArg || b.send(from, from, l) != api.ErrArg {
				t.Error(from, l)
			}
		}
	}
	for addr := range 256 {
		want := api.OK
		if addr > 204 {
			want = api.ErrArg
		}
		for _, l := range []list{nil, {}} {
			if b.mint(byte(addr), l) != want || b.burn(byte(addr), l) != want || b.send(byte(addr), 1, l) != want || b.send(1, byte(addr), l) != want {
				t.Error(addr)
			}
		}
	}
	if !store.Same(b.s, was) {
		t.Error("something is done")
	}
	b.lookEverywhere()
}

// What went to nothing is told no more, and isn't kept.
func TestP9_2Nothing(t *testing.T) {
	b := start(t)
	b.mint(1, list{of(0, 5), of(2, 3), of(7, 1)})
	b.send(1, 7, list{of(2, 3)})
	b.lookEverywhere()
	b.burn(1, one(n(5)))
	b.lookEverywhere()
	b.send(1, 200, list{of(7, 1)})
	if l := bank.Coins(b.s, 1); len(l) != 0 {
		t.Error(l)
	}
	b.lookEverywhere()
	b.burn(200, list{of(7, 1)})
	b.burn(7, list{of(2, 3)})
	if l, all := bank.Supply(b.s), bank.All(b.s); len(l) != 0 || len(all) != 0 {
		t.Error(l, all)
	}
	b.lookEverywhere()
	if !store.Same(b.s, store.New()) {
		t.Error("nothing is kept as something")
	}
	b.mint(1, one(n(1)))
	b.lookEverywhere()
}

// With an error the store is as it was, and as many parts are begun; so it is with what goes to itself.
func TestP9_2NothingDone(t *testing.T) {
	b := begun(t)
	was := b.s.Copy()
	b.s.Begin()
	for _, e := range []api.Errno{
		b.send(1, 7, full(n(11))), b.send(1, 205, one(n(1))), b.send(7, 7, one(n(6))), b.send(7, 1, list{of(0, 5), of(1, 1)}),
		b.mint(1, full(most)), b.mint(1, append(full(n(1))[:7], api.Coin{Denom: 7, N: most})), b.mint(205, one(n(1))),
		b.burn(7, one(n(6))), b.burn(1, append(full(n(10))[:7], of(7, 11))), b.burn(205, one(n(1))),
	} {
		if e == api.OK || !store.Same(b.s, was) || b.s.Depth() != 1 {
			t.Error(e, b.s.Depth())
		}
	}
	for _, l := range []list{nil, one(n(1)), full(n(10))} {
		if b.send(1, 1, l) != api.OK || !store.Same(b.s, was) || b.s.Depth() != 1 {
			t.Error(l)
		}
	}
	b.lookEverywhere()
}

// What is done in a part that is rolled back isn't done.
func TestP9_2Rollback(t *testing.T) {
	b := begun(t)
	has, supply := b.has, b.supply
	was := b.s.Copy()
	b.s.Begin()
	b.has = map[byte]purse{}
	for addr, p := range has {
		b.has[addr] = p
	}
	b.send(1, 7, full(n(10)))
	b.mint(9, full(half))
	b.burn(7, full(n(3)))
	b.lookEverywhere()
	b.s.Rollback()
	b.has, b.supply = has, supply
	b.lookEverywhere()
	if !store.Same(b.s, was) {
		t.Error("it isn't as it was")
	}
}

func TestNil(t *testing.T) {
	for addr := range 256 {
		a := byte(addr)
		for d := range 10 {
			if x := bank.Balance(nil, a, byte(d)); x != (api.Num{}) {
				t.Error(a, d, x)
			}
		}
		if l := bank.Coins(nil, a); len(l) != 0 {
			t.Error(a, l)
		}
		for _, l := range append(wrong(), nil, one(n(1)), full(most)) {
			if bank.Send(nil, a, 1, l) != api.ErrArg || bank.Send(nil, 1, a, l) != api.ErrArg || bank.Send(nil, a, a, l) != api.ErrArg || bank.Mint(nil, a, l) != api.ErrArg || bank.Burn(nil, a, l) != api.ErrArg {
				t.Error(a, l)
			}
		}
	}
	if l, all := bank.Supply(nil), bank.All(nil); len(l) != 0 || len(all) != 0 {
		t.Error(l, all)
	}
}

// Stores have banks of their own, and a copy's is alike.
func TestStores(t *testing.T) {
	a, b := begun(t), start(t)
	b.lookEverywhere()
	c := &both{t: t, s: a.s.Copy(), has: map[byte]purse{}, supply: a.supply}
	for addr, p := range a.has {
		c.has[addr] = p
	}
	c.lookEverywhere()
	c.send(1, 7, full(n(10)))
	c.burn(7, one(n(15)))
	a.lookEverywhere()
	c.lookEverywhere()
}

// Other layers' keys in the same store are neither told nor touched, whatever is done.
func TestOthers(t *testing.T) {
	b := start(t)
	others := []string{"", "a", "b", "bank", "c", "z", "\x00", "\x00\x00", "\x01\x00", "\xc8\x00", "\xff"}
	for _, key := range others {
		b.s.Set([]byte(key), []byte{7})
	}
	b.lookEverywhere()
	b.mint(0, full(n(9)))
	b.mint(200, full(n(9)))
	b.lookEverywhere()
	b.burn(0, full(n(9)))
	b.burn(200, full(n(9)))
	b.lookEverywhere()
	for _, key := range others {
		if v, ok := b.s.Get([]byte(key)); !ok || !slices.Equal(v, []byte{7}) {
			t.Errorf("%q: %v %v", key, v, ok)
		}
	}
	if b.s.Len() != len(others) {
		t.Error(b.s.Len())
	}
}

// anyList is a list that is Right, of numbers small or great, or near what an address has.
func anyList(r *rand.Rand, near list) (l list) {
	if r.IntN(4) == 0 {
		l = slices.Clone(near)
		if len(l) > 0 && r.IntN(2) == 0 {
			x := &l[r.IntN(len(l))].N
			if x[0] += r.Uint64N(3) - 1; *x == n(0) {
				*x = n(1)
			}
		}
		return l
	}
	for d := range byte(api.MaxDenom) {
		if r.IntN(3) > 0 {
			continue
		}
		x := n(1 + r.Uint64N(20))
		if r.IntN(6) == 0 {
			x = api.Num{r.Uint64(), r.Uint64(), r.Uint64(), r.Uint64()}
		}
		l = append(l, api.Coin{Denom: d, N: x})
	}
	return l
}

// anyAddress is one of a few, and now and then none.
func anyAddress(r *rand.Rand) byte {
	l := []byte{0, 1, 2, 7, 8, 199, 200, 201, 204}
	if r.IntN(30) == 0 {
		return byte(205 + r.IntN(51))
	}
	return l[r.IntN(len(l))]
}

// All balances together are the supply, behind any deeds.
func TestP9Any(t *testing.T) {
	r := rand.New(rand.NewPCG(9, 1))
	seen := map[api.Errno]int{}
	for range 200 {
		b := start(t)
		for range 100 {
			from, to := anyAddress(r), anyAddress(r)
			l := anyList(r, b.of(from).coins())
			if r.IntN(30) == 0 {
				l = wrong()[r.IntN(len(wrong()))]
			}
			switch r.IntN(5) {
			case 0, 1:
				seen[b.send(from, to, l)]++
			case 2:
				seen[b.burn(from, l)]++
			default:
				seen[b.mint(from, l)]++
			}
			b.lookAt(from)
			b.lookAt(to)
			b.look()
		}
		b.lookEverywhere()
	}
	for _, e := range []api.Errno{api.OK, api.ErrArg, api.ErrFunds, api.ErrOver} {
		if seen[e] < 100 {
			t.Error("hardly ever came to", e, seen[e])
		}
	}
}

// P1: of a store whose bank others made only this is kept, that calls end.
func TestP1OtherStores(t *testing.T) {
	for _, key := range begun(t).s.Keys(nil) {
		for size := range len(key) + 3 {
			for _, value := range [][]byte{nil, {0}, {0, 1}, {255}, make([]byte, 33), slices.Repeat([]byte{255}, 32), slices.Repeat([]byte{255}, 33)} {
				s := begun(t).s
				s.Set(append(slices.Clone(key), 1, 255)[:size], value)
				for _, addr := range []byte{0, 1, 7, 200, 255} {
					bank.Send(s, addr, 1, one(n(2)))
					bank.Send(s, 1, addr, full(n(3)))
					bank.Mint(s, addr, full(n(4)))
					bank.Burn(s, addr, one(n(5)))
					bank.Coins(s, addr)
				}
				bank.Supply(s)
				bank.All(s)
			}
		}
	}
}
