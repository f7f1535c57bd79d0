package coins_test

import (
	"slices"
	"testing"

	"jointure/api"
	"jointure/coins"
)

const top = 1<<64 - 1

var (
	zero = api.Num{}
	most = api.Num{top, top, top, top}
)

type list = []api.Coin

// of is a coin of n.
func of(denom byte, n uint64) api.Coin { return api.Coin{Denom: denom, N: api.Num{n}} }

// full is n of each denomination.
func full(n api.Num) list {
	var l list
	for d := range byte(api.MaxDenom) {
		l = append(l, api.Coin{Denom: d, N: n})
	}
	return l
}

// pick is how much of each denomination the base-3 digits of a number tell: every list of 0, 1 and 2.
func pick(digits int) list {
	var l list
	for d := range byte(api.MaxDenom) {
		if n := digits % 3; n > 0 {
			l = append(l, of(d, uint64(n)))
		}
		digits /= 3
	}
	return l
}

// wrong are lists that aren't Right.
func wrong() []list {
	return []list{
		{{}}, {of(3, 0)}, {of(0, 1), of(1, 0)}, {of(0, 0), of(1, 1)},
		{of(8, 1)}, {of(255, 1)}, {of(7, 1), of(8, 1)}, append(full(most), of(8, 1)),
		{of(1, 1), of(1, 1)}, {of(0, 1), of(0, 1)}, {of(1, 1), of(0, 1)}, {of(7, 1), of(0, 1)},
		{of(0, 1), of(2, 1), of(1, 1)}, {of(0, 1), of(2, 1), of(2, 2)},
		append(full(most), full(most)...), make(list, 1000),
	}
}

// alike is whether two lists have the same coins, nil or not.
func alike(a, b list) bool { return slices.Equal(a, b) }

func TestP2_1Right(t *testing.T) {
	for _, l := range []list{nil, {}, {of(0, 1)}, {of(7, 1)}, {of(0, 1), of(7, top)}, {of(2, 1), of(3, 9), of(5, 1)}, full(most), full(api.Num{0, 0, 0, 1})} {
		if !coins.Right(l) {
			t.Error(l)
		}
	}
	for _, l := range wrong() {
		if coins.Right(l) {
			t.Error(l)
		}
	}
}

func TestP2_1Amount(t *testing.T) {
	l := list{of(0, 5), of(2, 1), {Denom: 7, N: most}}
	for d := range 256 {
		want := map[int]api.Num{0: {5}, 2: {1}, 7: most}[d]
		if n := coins.Amount(l, byte(d)); n != want {
			t.Error(d, n)
		}
		if coins.Amount(nil, byte(d)) != zero || coins.Amount(list{}, byte(d)) != zero {
			t.Error(d)
		}
	}
}

func TestP2_1One(t *testing.T) {
	for d := range 256 {
		for _, n := range []api.Num{zero, {1}, {0, 0, 0, 1}, most} {
			var want list
			if d < api.MaxDenom && n != zero {
				want = list{{Denom: byte(d), N: n}}
			}
			if l := coins.One(byte(d), n); !alike(l, want) {
				t.Error(d, n, l)
			}
		}
	}
}

func TestP2_2Add(t *testing.T) {
	less := api.Num{top - 1, top, top, top}
	for _, c := range []struct {
		a, b, l list
		e       api.Errno
	}{
		{nil, nil, nil, api.OK},
		{list{of(0, 1)}, list{}, list{of(0, 1)}, api.OK},
		{nil, list{of(7, 1)}, list{of(7, 1)}, api.OK},
		{list{of(0, 1), of(1, 2)}, list{of(1, 3), of(2, 4)}, list{of(0, 1), of(1, 5), of(2, 4)}, api.OK},
		{list{of(7, 1)}, list{of(0, 1)}, list{of(0, 1), of(7, 1)}, api.OK},
		{full(less), full(api.Num{1}), full(most), api.OK},
		{full(most), full(api.Num{1}), nil, api.ErrOver},
		{full(most), list{of(7, 1)}, nil, api.ErrOver},
		{list{of(0, 1), {Denom: 3, N: most}}, list{of(3, 1)}, nil, api.ErrOver},
		{list{{Denom: 0, N: most}}, list{{Denom: 1, N: most}}, list{{Denom: 0, N: most}, {Denom: 1, N: most}}, api.OK},
	} {
		if l, e := coins.Add(c.a, c.b); !alike(l, c.l) || e != c.e {
			t.Error(c, l, e)
		}
		if l, e := coins.Add(c.b, c.a); !alike(l, c.l) || e != c.e {
			t.Error(c, l, e)
		}
	}
}

func TestP2_2Sub(t *testing.T) {
	for _, c := range []struct {
		a, b, l list
		e       api.Errno
	}{
		{nil, nil, nil, api.OK},
		{list{of(0, 3), of(1, 2)}, nil, list{of(0, 3), of(1, 2)}, api.OK},
		{list{of(0, 3), of(1, 2)}, list{of(0, 3), of(1, 1)}, list{of(1, 1)}, api.OK},
		{full(most), full(most), nil, api.OK},
		{full(most), list{of(7, 1)}, append(full(most)[:7], api.Coin{Denom: 7, N: api.Num{top - 1, top, top, top}}), api.OK},
		{nil, list{of(7, 1)}, nil, api.ErrFunds},
		{list{of(0, 3)}, list{of(0, 4)}, nil, api.ErrFunds},
		{list{of(0, 3)}, list{of(0, 1), of(1, 1)}, nil, api.ErrFunds},
		{list{of(0, 3), of(2, 1)}, list{of(0, 1), of(2, 2)}, nil, api.ErrFunds},
	} {
		if l, e := coins.Sub(c.a, c.b); !alike(l, c.l) || e != c.e {
			t.Error(c, l, e)
		}
	}
}

func TestP2_2LeastAndRest(t *testing.T) {
	for _, c := range []struct{ a, b, least, rest list }{
		{nil, nil, nil, nil},
		{list{of(0, 5), of(2, 1)}, list{of(0, 7)}, list{of(0, 5)}, list{of(2, 1)}},
		{list{of(0, 7)}, list{of(0, 5), of(2, 1)}, list{of(0, 5)}, list{of(0, 2)}},
		{list{of(0, 3), of(1, 2), of(2, 5)}, list{of(0, 4), of(1, 1)}, list{of(0, 3), of(1, 1)}, list{of(1, 1), of(2, 5)}},
		{full(most), nil, nil, full(most)},
		{nil, full(most), nil, nil},
		{full(most), full(most), full(most), nil},
		{full(most), full(api.Num{1}), full(api.Num{1}), full(api.Num{top - 1, top, top, top})},
	} {
		if l := coins.Least(c.a, c.b); !alike(l, c.least) {
			t.Error(c, l)
		}
		if l := coins.Rest(c.a, c.b); !alike(l, c.rest) {
			t.Error(c, l)
		}
	}
}

func TestP2_2WithinAndSame(t *testing.T) {
	for _, c := range []struct {
		a, b         list
		within, same bool
	}{
		{nil, nil, true, true},
		{nil, list{}, true, true},
		{nil, list{of(7, 1)}, true, false},
		{list{of(7, 1)}, nil, false, false},
		{list{of(7, 1)}, list{of(6, 1)}, false, false},
		{list{of(0, 3)}, list{of(0, 3), of(1, 1)}, true, false},
		{list{of(0, 3), of(1, 1)}, list{of(0, 9)}, false, false},
		{list{of(0, 3), of(1, 1)}, list{of(0, 9), of(1, 1)}, true, false},
		{list{of(0, 9)}, list{{Denom: 0, N: api.Num{0, 1}}}, true, false},
		{full(most), full(most), true, true},
		{full(api.Num{top - 1, top, top, top}), full(most), true, false},
		{full(most), full(api.Num{top, top, top, top - 1}), false, false},
	} {
		if coins.Within(c.a, c.b) != c.within {
			t.Error("Within", c)
		}
		if coins.Same(c.a, c.b) != c.same || coins.Same(c.b, c.a) != c.same {
			t.Error("Same", c)
		}
	}
}

// Of each denomination what a call answers is what these two numbers come to, and the list is Right.
func TestP2_2ByEachDenomination(t *testing.T) {
	const all = 3 * 3 * 3 * 3 * 3 * 3 * 3 * 3
	for i := range 20000 {
		a, b := pick(i*7%all), pick(i*2909%all)
		sum, _ := coins.Add(a, b)
		left, e := coins.Sub(a, b)
		least, rest := coins.Least(a, b), coins.Rest(a, b)
		more, alike := false, true
		for d := range byte(api.MaxDenom) {
			x, y := coins.Amount(a, d)[0], coins.Amount(b, d)[0]
			more, alike = more || y > x, alike && x == y
			if coins.Amount(sum, d) != (api.Num{x + y}) || coins.Amount(least, d) != (api.Num{min(x, y)}) || coins.Amount(rest, d) != (api.Num{max(x, y) - y}) {
				t.Error(a, b, sum, least, rest)
			}
		}
		if more != (e == api.ErrFunds) || more && len(left) > 0 || !more && !slices.Equal(left, rest) {
			t.Error(a, b, left, e)
		}
		if coins.Within(b, a) == more || coins.Same(a, b) != alike {
			t.Error(a, b)
		}
		if !coins.Right(sum) || !coins.Right(left) || !coins.Right(least) || !coins.Right(rest) {
			t.Error(a, b, sum, left, least, rest)
		}
	}
}

// answers are all lists that the calls answer of a and b.
func answers(a, b list) []list {
	sum, _ := coins.Add(a, b)
	left, _ := coins.Sub(a, b)
	return []list{sum, left, coins.Least(a, b), coins.Rest(a, b)}
}

func TestP2_2NothingIsShared(t *testing.T) {
	for _, c := range [][2]list{
		{full(api.Num{5}), full(api.Num{2})}, {full(api.Num{5}), nil}, {nil, full(api.Num{5})},
		{full(api.Num{5}), full(api.Num{5})}, {list{of(0, 5)}, list{of(1, 5)}},
	} {
		a, b := slices.Clone(c[0]), slices.Clone(c[1])
		before := answers(a, b)
		coins.Within(a, b)
		coins.Same(a, b)
		if !alike(a, c[0]) || !alike(b, c[1]) {
			t.Error("written into what was handed in", c)
		}
		for _, l := range answers(a, b) {
			clear(l)
			clear(l[:cap(l)])
			if !alike(a, c[0]) || !alike(b, c[1]) {
				t.Error("an answer shares memory", c)
			}
		}
		clear(a)
		clear(b)
		for i, l := range answers(c[0], c[1]) {
			if !alike(l, before[i]) {
				t.Error("an answer changed with what was handed in", c)
			}
		}
	}
	// One list in both places is no other case.
	l := full(api.Num{5})
	if sum, e := coins.Add(l, l); e != api.OK || !alike(sum, full(api.Num{10})) || !alike(l, full(api.Num{5})) {
		t.Error(sum, e)
	}
}

// Of lists that aren't Right no more is asked than that each call ends, and that beside an error there is nothing.
func TestP1WrongLists(t *testing.T) {
	others := append(wrong(), nil, list{}, list{of(0, 1)}, full(most))
	for _, a := range others {
		for _, b := range others {
			if l, e := coins.Add(a, b); e != api.OK && (e != api.ErrOver || len(l) > 0) {
				t.Error(a, b, l, e)
			}
			if l, e := coins.Sub(a, b); e != api.OK && (e != api.ErrFunds || len(l) > 0) {
				t.Error(a, b, l, e)
			}
			coins.Least(a, b)
			coins.Rest(a, b)
			coins.Within(a, b)
			coins.Same(a, b)
		}
		for d := range 256 {
			coins.Amount(a, byte(d))
		}
	}
}
