package hold_test

import (
	"math/big"
	"math/rand/v2"
	"testing"

	"jointure/api"
	"jointure/hold"
)

const top = 1<<64 - 1

var (
	zero = api.Num{}
	most = api.Num{top, top, top, top}
	less = api.Num{top - 1, top, top, top}
	half = api.Num{0, 0, 0, 1 << 63}
)

func n(x uint64) api.Num { return api.Num{x} }

func of(kept, free api.Num) api.Hold { return api.Hold{Kept: kept, Free: free} }

// whole is a number as the library's own.
func whole(a api.Num) *big.Int {
	x := new(big.Int)
	for i := 3; i >= 0; i-- {
		x.Or(x.Lsh(x, 64), new(big.Int).SetUint64(a[i]))
	}
	return x
}

// least is the less of two, and never below 0.
func least(a, b *big.Int) *big.Int {
	if b.Cmp(a) < 0 {
		a = b
	}
	if a.Sign() < 0 {
		return new(big.Int)
	}
	return new(big.Int).Set(a)
}

func TestP7_1Track(t *testing.T) {
	for _, c := range []struct {
		h         api.Hold
		locked, n api.Num
		want      api.Hold
		e         api.Errno
	}{
		{of(n(4), n(1)), n(10), n(9), of(n(10), n(4)), api.OK},
		{of(n(4), zero), n(10), n(5), of(n(9), zero), api.OK},
		{of(n(4), zero), n(10), n(6), of(n(10), zero), api.OK},
		{of(n(4), zero), n(10), n(7), of(n(10), n(1)), api.OK},
		// n is 0
		{of(zero, zero), zero, zero, of(zero, zero), api.OK},
		{of(n(4), n(1)), n(10), zero, of(n(4), n(1)), api.OK},
		{of(n(12), n(1)), n(10), zero, of(n(12), n(1)), api.OK},
		{of(most, most), most, zero, of(most, most), api.OK},
		// nothing is locked, or no more than is Kept, or less
		{of(n(4), n(1)), zero, n(9), of(n(4), n(10)), api.OK},
		{of(n(10), n(1)), n(10), n(9), of(n(10), n(10)), api.OK},
		{of(n(11), n(1)), n(10), n(9), of(n(11), n(10)), api.OK},
		{of(most, n(1)), n(10), n(9), of(most, n(10)), api.OK},
		// the greatest numbers
		{of(zero, zero), most, most, of(most, zero), api.OK},
		{of(zero, zero), zero, most, of(zero, most), api.OK},
		{of(zero, most), most, most, of(most, most), api.OK},
		{of(n(1), most), most, less, of(most, most), api.OK},
		{of(zero, less), zero, n(1), of(zero, most), api.OK},
		{of(half, half), most, half, of(most, api.Num{1, 0, 0, 1 << 63}), api.OK},
		// Free would be more than a number can be
		{of(zero, most), zero, n(1), of(zero, zero), api.ErrOver},
		{of(n(3), less), n(3), n(2), of(zero, zero), api.ErrOver},
		{of(n(3), most), n(5), n(3), of(zero, zero), api.ErrOver},
		{of(n(1), most), most, most, of(zero, zero), api.ErrOver},
		{of(most, n(1)), zero, most, of(zero, zero), api.ErrOver},
		{of(zero, half), zero, half, of(zero, zero), api.ErrOver},
	} {
		if h, e := hold.Track(c.h, c.locked, c.n); h != c.want || e != c.e {
			t.Error(c, h, e)
		}
	}
}

func TestP7_1Back(t *testing.T) {
	for _, c := range []struct {
		h    api.Hold
		n    api.Num
		want api.Hold
	}{
		{of(n(10), n(3)), n(5), of(n(8), zero)},
		{of(n(10), n(3)), n(2), of(n(10), n(1))},
		{of(n(10), n(3)), n(3), of(n(10), zero)},
		{of(n(10), n(3)), n(4), of(n(9), zero)},
		{of(n(10), n(3)), n(13), of(zero, zero)},
		// n is 0
		{of(n(10), n(3)), zero, of(n(10), n(3))},
		{of(zero, zero), zero, of(zero, zero)},
		{of(most, most), zero, of(most, most)},
		// one of both is 0
		{of(n(10), zero), n(4), of(n(6), zero)},
		{of(zero, n(10)), n(4), of(zero, n(6))},
		// more than there is
		{of(n(10), n(3)), n(14), of(zero, zero)},
		{of(n(10), n(3)), most, of(zero, zero)},
		{of(zero, zero), n(1), of(zero, zero)},
		{of(zero, n(3)), n(4), of(zero, zero)},
		// the greatest numbers
		{of(most, most), most, of(most, zero)},
		{of(most, less), most, of(less, zero)},
		{of(most, n(1)), most, of(n(1), zero)},
		{of(most, zero), most, of(zero, zero)},
		{of(half, half), most, of(n(1), zero)},
	} {
		if h := hold.Back(c.h, c.n); h != c.want {
			t.Error(c, h)
		}
	}
}

func TestP7_2Spend(t *testing.T) {
	for _, c := range []struct{ balance, locked, kept, want api.Num }{
		{n(9), n(7), n(4), n(6)},
		{n(9), n(7), zero, n(2)},
		{n(9), zero, zero, n(9)},
		// as much as is locked is kept, or more
		{n(9), n(7), n(7), n(9)}, {n(9), n(4), n(7), n(9)}, {n(9), zero, most, n(9)}, {zero, n(4), n(7), zero},
		// the balance is what is locked and isn't kept, or one more, or less
		{n(3), n(7), n(4), zero}, {n(4), n(7), n(4), n(1)}, {n(2), n(7), n(4), zero}, {zero, n(7), n(4), zero}, {n(2), most, zero, zero},
		// the greatest numbers
		{most, zero, zero, most}, {most, most, zero, zero}, {most, most, most, most}, {most, most, n(1), n(1)}, {less, most, zero, zero}, {n(1), most, less, zero}, {n(2), most, less, n(1)},
	} {
		if x := hold.Spend(c.balance, c.locked, c.kept); x != c.want {
			t.Error(c, x)
		}
	}
}

// same holds the three calls against what P7.1 and P7.2 say, reckoned by the library's own numbers.
func same(t *testing.T, h api.Hold, a, b api.Num) (over bool) {
	t.Helper()
	kept, free, locked, m := whole(h.Kept), whole(h.Free), whole(a), whole(b)
	more := least(m, new(big.Int).Sub(locked, kept))
	rest := new(big.Int).Add(free, new(big.Int).Sub(m, more))
	over = rest.BitLen() > 256
	got, e := hold.Track(h, a, b)
	if over != (e == api.ErrOver) || over && got != (api.Hold{}) {
		t.Error("Track", h, a, b, got, e)
	}
	if !over && (e != api.OK || whole(got.Free).Cmp(rest) != 0 || whole(got.Kept).Cmp(new(big.Int).Add(kept, more)) != 0) {
		t.Error("Track", h, a, b, got, e)
	}
	ofFree := least(m, free)
	ofKept := least(new(big.Int).Sub(m, ofFree), kept)
	got = hold.Back(h, b)
	if whole(got.Free).Cmp(new(big.Int).Sub(free, ofFree)) != 0 || whole(got.Kept).Cmp(new(big.Int).Sub(kept, ofKept)) != 0 {
		t.Error("Back", h, b, got)
	}
	stuck := least(locked, new(big.Int).Sub(locked, kept))
	if x := hold.Spend(b, a, h.Kept); whole(x).Cmp(least(m, new(big.Int).Sub(m, stuck))) != 0 {
		t.Error("Spend", b, a, h.Kept, x)
	}
	return over
}

func TestP7AllSmall(t *testing.T) {
	for i := range uint64(6 * 6 * 6 * 6) {
		same(t, of(n(i%6), n(i/6%6)), n(i/36%6), n(i/216))
	}
}

func TestP7Edges(t *testing.T) {
	l := []api.Num{zero, n(1), n(2), n(top), {0, 1}, {top, top, top}, {0, 0, 0, 1}, half, {top, top, top, 1<<63 - 1}, less, most}
	over := 0
	for _, kept := range l {
		for _, free := range l {
			for _, locked := range l {
				for _, m := range l {
					if same(t, of(kept, free), locked, m) {
						over++
					}
				}
			}
		}
	}
	if over == 0 {
		t.Error("none was too much")
	}
}

func TestP7Any(t *testing.T) {
	r := rand.New(rand.NewPCG(7, 1))
	any := func() (a api.Num) {
		for i := range 1 + r.IntN(4) {
			a[i] = r.Uint64() >> r.IntN(64)
		}
		return a
	}
	for range 50000 {
		same(t, of(any(), any()), any(), any())
	}
}

// What was delegated and comes back whole leaves as much in all as there was; since Free goes first, no more of that.
func TestP7_1ThereAndBack(t *testing.T) {
	for i := range uint64(6 * 6 * 6 * 6) {
		h, locked, m := of(n(i%6), n(i/6%6)), n(i/36%6), n(i/216)
		there, e := hold.Track(h, locked, m)
		back := hold.Back(there, m)
		if e != api.OK || back.Kept[0]+back.Free[0] != h.Kept[0]+h.Free[0] || back.Free[0] > h.Free[0] {
			t.Error(h, locked, m, there, back)
		}
	}
}
