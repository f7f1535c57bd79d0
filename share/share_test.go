package share_test

import (
	"math/big"
	"math/rand/v2"
	"testing"

	"jointure/api"
	"jointure/share"
)

const top = 1<<64 - 1

var (
	zero = api.Num{}
	most = api.Num{top, top, top, top}
	less = api.Num{top - 1, top, top, top}
	half = api.Num{0, 0, 0, 1 << 63}
	last = api.Num{top, top, top, 1<<63 - 1} // one less than half
)

func n(x uint64) api.Num { return api.Num{x} }

// edges are numbers at which products need more than 256 bits, or just don't.
func edges() []api.Num {
	return []api.Num{zero, n(1), n(2), n(3), n(top), {0, 1}, {1, 1}, {top, top}, {0, 0, 1}, {1, 0, 1}, {top, top, top}, {0, 0, 0, 1}, last, half, {1, 0, 0, 1 << 63}, less, most}
}

// someNum is a number of any greatness, by a source that always tells the same.
func someNum(r *rand.Rand) (a api.Num) {
	for i := range 1 + r.IntN(4) {
		a[i] = r.Uint64() >> r.IntN(64)
	}
	return a
}

// near is the number itself, or one close by it.
func near(r *rand.Rand, a api.Num) api.Num {
	a[0] += r.Uint64N(5) - 2
	return a
}

// whole is a number as the library's own.
func whole(a api.Num) *big.Int {
	x := new(big.Int)
	for i := 3; i >= 0; i-- {
		x.Or(x.Lsh(x, 64), new(big.Int).SetUint64(a[i]))
	}
	return x
}

// worthOf is what P8.1 says of x shares, reckoned by the library's own numbers.
func worthOf(tokens, shares, x *big.Int) *big.Int {
	if shares.Sign() == 0 {
		return new(big.Int)
	}
	if x.Cmp(shares) >= 0 {
		return tokens
	}
	worth := new(big.Int).Mul(x, tokens)
	return worth.Quo(worth, shares)
}

func checkWorth(t *testing.T, tokens, shares, x api.Num) {
	t.Helper()
	want := worthOf(whole(tokens), whole(shares), whole(x))
	if got := share.Worth(tokens, shares, x); whole(got).Cmp(want) != 0 {
		t.Errorf("Worth %v %v %v: %v; want %v", tokens, shares, x, got, want)
	}
}

// checkShares tells which error there was, so that a test can see that it came to all of them.
func checkShares(t *testing.T, tokens, shares, m api.Num) api.Errno {
	t.Helper()
	want, fault := whole(m), api.OK
	if shares != zero && tokens == zero {
		want, fault = new(big.Int), api.ErrArg
	} else if shares != zero {
		want.Mul(want, whole(shares)).Quo(want, whole(tokens))
	}
	if want.BitLen() > 256 {
		want, fault = new(big.Int), api.ErrOver
	}
	if got, e := share.Shares(tokens, shares, m); e != fault || whole(got).Cmp(want) != 0 {
		t.Errorf("Shares %v %v %v: %v, %d; want %v, %d", tokens, shares, m, got, e, want, fault)
	}
	return fault
}

// checkFewest asks for the words themselves: that they are worth as much, and that one fewer aren't.
func checkFewest(t *testing.T, tokens, shares, m api.Num) api.Errno {
	t.Helper()
	all, of, want := whole(tokens), whole(shares), whole(m)
	got, e := share.Fewest(tokens, shares, m)
	if want.Cmp(all) > 0 || of.Sign() == 0 && want.Sign() != 0 {
		if got != zero || e != api.ErrFunds {
			t.Errorf("Fewest %v %v %v: %v, %d; want ErrFunds", tokens, shares, m, got, e)
		}
		return api.ErrFunds
	}
	x := whole(got)
	if e != api.OK || x.Cmp(of) > 0 || worthOf(all, of, x).Cmp(want) < 0 {
		t.Errorf("Fewest %v %v %v: %v, %d: they aren't worth as much", tokens, shares, m, got, e)
	}
	if x.Sign() > 0 && worthOf(all, of, x.Sub(x, big.NewInt(1))).Cmp(want) >= 0 {
		t.Errorf("Fewest %v %v %v: %v: one fewer are worth as much", tokens, shares, m, got)
	}
	return api.OK
}

func checkPart(t *testing.T, m api.Num, part uint16) {
	t.Helper()
	want := whole(m)
	if part < 10000 {
		want.Mul(want, big.NewInt(int64(part))).Quo(want, big.NewInt(10000))
	}
	if got := share.Part(m, part); whole(got).Cmp(want) != 0 {
		t.Errorf("Part %v %d: %v; want %v", m, part, got, want)
	}
}

func TestP8_1Worth(t *testing.T) {
	for _, c := range []struct{ tokens, shares, x, want api.Num }{
		{n(2), n(3), n(2), n(1)},
		{n(7), n(3), n(1), n(2)}, {n(7), n(3), n(2), n(4)}, {n(6), n(3), n(2), n(4)}, {n(3), n(7), n(2), zero}, {n(3), n(7), n(5), n(2)},
		// x is 0
		{n(7), n(3), zero, zero}, {most, n(1), zero, zero},
		// x is shares, one less, one more, or any more
		{n(7), n(3), n(3), n(7)}, {n(7), n(3), n(4), n(7)}, {n(7), n(3), most, n(7)}, {n(1), n(3), n(2), zero}, {n(1), n(3), n(3), n(1)},
		// shares is 0, tokens is 0, both
		{n(7), zero, n(1), zero}, {n(7), zero, zero, zero}, {most, zero, most, zero}, {zero, n(3), n(2), zero}, {zero, n(3), n(9), zero}, {zero, zero, zero, zero}, {zero, zero, most, zero},
		// the greatest numbers
		{most, most, most, most}, {most, most, less, less}, {most, less, less, most}, {most, less, most, most}, {less, most, less, api.Num{top - 2, top, top, top}},
		{most, n(2), n(1), last}, {most, half, last, api.Num{top - 2, top, top, top}}, {n(1), most, less, zero}, {n(1), most, most, n(1)},
	} {
		if got := share.Worth(c.tokens, c.shares, c.x); got != c.want {
			t.Error(c, got)
		}
	}
}

func TestP8_2Shares(t *testing.T) {
	for _, c := range []struct {
		tokens, shares, n, want api.Num
		e                       api.Errno
	}{
		{n(2), n(3), n(5), n(7), api.OK},
		{n(2), n(3), n(4), n(6), api.OK},
		{n(5), n(3), n(1), zero, api.OK},
		{n(5), n(3), n(2), n(1), api.OK},
		{n(4), n(3), zero, zero, api.OK},
		// shares is 0: n, whatever tokens is
		{zero, zero, n(7), n(7), api.OK},
		{n(4), zero, n(7), n(7), api.OK},
		{most, zero, most, most, api.OK},
		{zero, zero, most, most, api.OK},
		{zero, zero, zero, zero, api.OK},
		// tokens is 0 and shares isn't: also where nothing comes, or where it would be too much
		{zero, n(3), n(5), zero, api.ErrArg},
		{zero, n(1), zero, zero, api.ErrArg},
		{zero, most, most, zero, api.ErrArg},
		// more than a number can be, or just not
		{n(1), most, n(2), zero, api.ErrOver},
		{n(1), n(2), most, zero, api.ErrOver},
		{less, most, most, zero, api.ErrOver},
		{n(1), half, n(2), zero, api.ErrOver},
		{n(2), n(3), most, zero, api.ErrOver},
		{n(1), last, n(2), less, api.OK},
		{n(1), most, n(1), most, api.OK},
		{n(1), n(1), most, most, api.OK},
		{most, most, most, most, api.OK},
		{most, less, most, less, api.OK},
		{most, less, less, api.Num{top - 2, top, top, top}, api.OK},
		{half, last, most, api.Num{top - 2, top, top, top}, api.OK},
		{n(2), most, n(1), last, api.OK},
	} {
		if got, e := share.Shares(c.tokens, c.shares, c.n); got != c.want || e != c.e {
			t.Error(c, got, e)
		}
	}
}

func TestP8_2Fewest(t *testing.T) {
	for _, c := range []struct {
		tokens, shares, n, want api.Num
		e                       api.Errno
	}{
		{n(2), n(3), n(1), n(2), api.OK},
		{n(7), n(3), n(4), n(2), api.OK},
		{n(7), n(3), n(5), n(3), api.OK},
		{n(6), n(3), n(4), n(2), api.OK},
		{n(3), n(7), n(1), n(3), api.OK},
		// n is 0: 0, whatever the others are
		{n(7), n(3), zero, zero, api.OK},
		{zero, n(3), zero, zero, api.OK},
		{n(7), zero, zero, zero, api.OK},
		{zero, zero, zero, zero, api.OK},
		{most, most, zero, zero, api.OK},
		// n is tokens, or one less, or more
		{n(7), n(3), n(7), n(3), api.OK},
		{n(7), n(3), n(6), n(3), api.OK},
		{n(7), n(3), n(8), zero, api.ErrFunds},
		{n(7), n(3), most, zero, api.ErrFunds},
		{zero, n(3), n(1), zero, api.ErrFunds},
		{less, most, most, zero, api.ErrFunds},
		// shares is 0 and n isn't
		{n(7), zero, n(1), zero, api.ErrFunds},
		{n(7), zero, n(8), zero, api.ErrFunds},
		{zero, zero, n(1), zero, api.ErrFunds},
		{most, zero, most, zero, api.ErrFunds},
		// the greatest numbers
		{most, most, most, most, api.OK},
		{most, most, less, less, api.OK},
		{most, less, less, less, api.OK},
		{less, most, n(1), n(2), api.OK},
		{n(1), most, n(1), most, api.OK},
		{n(2), most, n(1), half, api.OK},
		{most, n(1), most, n(1), api.OK},
		{most, n(1), n(1), n(1), api.OK},
		{most, n(2), last, n(1), api.OK},
		{most, n(2), half, n(2), api.OK},
	} {
		if got, e := share.Fewest(c.tokens, c.shares, c.n); got != c.want || e != c.e {
			t.Error(c, got, e)
		}
	}
}

func TestP8_3Part(t *testing.T) {
	for _, c := range []struct {
		n    api.Num
		part uint16
		want api.Num
	}{
		{n(9), 5000, n(4)}, {n(10), 5000, n(5)}, {n(10000), 1, n(1)}, {n(9999), 1, zero}, {n(19999), 1, n(1)}, {n(20000), 9999, n(19998)},
		// part is 0
		{n(9), 0, zero}, {most, 0, zero}, {zero, 0, zero},
		// part is Whole, one less, one more, or any more
		{n(9), 10000, n(9)}, {n(9), 9999, n(8)}, {n(9), 10001, n(9)}, {n(10000), 10001, n(10000)}, {n(9), 65535, n(9)}, {n(1), 9999, zero}, {zero, 10000, zero}, {zero, 65535, zero},
		// the greatest numbers
		{most, 10000, most}, {most, 10001, most}, {most, 65535, most}, {most, 5000, last}, {less, 5000, last}, {half, 5000, api.Num{0, 0, 0, 1 << 62}},
	} {
		if got := share.Part(c.n, c.part); got != c.want {
			t.Error(c, got)
		}
	}
}

func TestP8AllSmall(t *testing.T) {
	for i := range uint64(13 * 13 * 13) {
		a, b, c := n(i%13), n(i/13%13), n(i/169)
		checkWorth(t, a, b, c)
		checkShares(t, a, b, c)
		checkFewest(t, a, b, c)
	}
}

func TestP8Edges(t *testing.T) {
	seen := map[api.Errno]int{}
	for _, a := range edges() {
		for _, b := range edges() {
			for _, c := range edges() {
				checkWorth(t, a, b, c)
				seen[checkShares(t, a, b, c)]++
				seen[checkFewest(t, a, b, c)]++
			}
		}
	}
	for _, e := range []api.Errno{api.OK, api.ErrArg, api.ErrOver, api.ErrFunds} {
		if seen[e] == 0 {
			t.Error("never came to", e)
		}
	}
}

func TestP8Any(t *testing.T) {
	r := rand.New(rand.NewPCG(8, 1))
	for range 50000 {
		tokens, shares, x := someNum(r), someNum(r), someNum(r)
		checkWorth(t, tokens, shares, x)
		checkWorth(t, tokens, shares, near(r, shares))
		checkShares(t, tokens, shares, x)
		checkFewest(t, tokens, shares, x)
		checkFewest(t, tokens, shares, near(r, tokens))
		checkPart(t, x, uint16(r.IntN(1<<16)))
	}
}

func TestP8_3AnyPart(t *testing.T) {
	for part := range 1 << 16 {
		for _, m := range []api.Num{n(1), n(9999), n(10001), {top, top, top, 1}, less, most} {
			checkPart(t, m, uint16(part))
		}
	}
}

// New shares are worth no more than was given for them, so that nobody pays for those who come later.
func TestP8_2SharesAreWorthNoMore(t *testing.T) {
	for i := range uint64(13 * 13 * 13) {
		tokens, shares, m := 1+i%13, 1+i/13%13, i/169
		x, e := share.Shares(n(tokens), n(shares), n(m))
		if worth := share.Worth(n(tokens+m), n(shares+x[0]), x); e != api.OK || worth[0] > m {
			t.Error(tokens, shares, m, x, worth)
		}
	}
}
