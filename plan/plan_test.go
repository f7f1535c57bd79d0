package plan_test

import (
	"math/big"
	"math/rand/v2"
	"slices"
	"testing"

	"jointure/api"
	"jointure/coins"
	"jointure/plan"
)

const top = 1<<64 - 1

var most = api.Num{top, top, top, top}

type list = []api.Coin

// of is a coin of n.
func of(denom byte, n uint64) api.Coin { return api.Coin{Denom: denom, N: api.Num{n}} }

// full is n of each denomination.
func full(n api.Num) list {
	var l list
	for d := range byte(api.MaxDenom) {
		l = append(l, api.Coin{Denom: d, N: n})
	}
	return l
}

// wrong are lists that aren't Right.
func wrong() []list {
	return []list{
		{{}}, {of(3, 0)}, {of(0, 1), of(1, 0)}, {of(0, 0), of(1, 1)},
		{of(8, 1)}, {of(255, 1)}, {of(0, 5), of(8, 1)}, append(full(most), of(8, 1)),
		{of(1, 1), of(1, 1)}, {of(0, 5), of(0, 5)}, {of(0, 2), of(0, 3)}, {of(1, 1), of(0, 1)}, {of(1, 1), of(0, 5)},
		append(full(most), full(most)...), make(list, 300),
	}
}

// whole is a number as the library's own.
func whole(n api.Num) *big.Int {
	x := new(big.Int)
	for i := 3; i >= 0; i-- {
		x.Or(x.Lsh(x, 64), new(big.Int).SetUint64(n[i]))
	}
	return x
}

// back is the number of the library's own, which has 256 bits.
func back(x *big.Int) api.Num {
	var n api.Num
	for i := range n {
		n[i] = new(big.Int).And(new(big.Int).Rsh(x, uint(64*i)), new(big.Int).SetUint64(top)).Uint64()
	}
	return n
}

// sums are what lists have, of each denomination; of lists that are Right.
func sums(l ...list) (s [api.MaxDenom]*big.Int) {
	for d := range s {
		s[d] = new(big.Int)
	}
	for _, a := range l {
		for _, c := range a {
			s[c.Denom].Add(s[c.Denom], whole(c.N))
		}
	}
	return s
}

// listed are coins of these numbers.
func listed(s [api.MaxDenom]*big.Int) (l list) {
	for d, n := range s {
		if n.Sign() > 0 {
			l = append(l, api.Coin{Denom: byte(d), N: back(n)})
		}
	}
	return l
}

// ends are when each period is over.
func ends(p api.Plan) (l []*big.Int) {
	at := new(big.Int).SetUint64(p.Start)
	for _, q := range p.Periods {
		at = new(big.Int).Add(at, new(big.Int).SetUint64(q.Length))
		l = append(l, at)
	}
	return l
}

// first is how many periods are over at t.
func first(p api.Plan, t uint64) (many int) {
	for i, end := range ends(p) {
		if end.Cmp(new(big.Int).SetUint64(t)) <= 0 {
			many = i + 1
		}
	}
	return many
}

// had are the coins of periods.
func had(l []api.Period) (all []list) {
	for _, q := range l {
		all = append(all, q.Coins)
	}
	return all
}

// mayBe is what P6.1 says of a plan.
func mayBe(p api.Plan) bool {
	if p.Kind == api.None {
		return p.Start == 0 && p.End == 0 && len(p.All) == 0 && len(p.Periods) == 0
	}
	if len(p.All) == 0 || !coins.Right(p.All) || p.End > 1<<40 {
		return false
	}
	if p.Kind != api.Steps && p.Kind != api.Revoke {
		if len(p.Periods) > 0 {
			return false
		}
		return p.Kind == api.Even && p.Start < p.End || p.Kind == api.Late && p.Start == 0 || p.Kind == api.Never && p.Start+p.End == 0 && p.Start == 0
	}
	if len(p.Periods) == 0 || len(p.Periods) > 16 {
		return false
	}
	for _, q := range p.Periods {
		if q.Length == 0 || len(q.Coins) == 0 || !coins.Right(q.Coins) {
			return false
		}
	}
	if l := ends(p); l[len(l)-1].Cmp(new(big.Int).SetUint64(p.End)) != 0 {
		return false
	}
	want, have := sums(p.All), sums(had(p.Periods)...)
	for d := range want {
		if want[d].Cmp(have[d]) != 0 {
			return false
		}
	}
	return true
}

// free is what P6.2 says that Vested is.
func free(p api.Plan, t uint64) list {
	switch p.Kind {
	case api.Late:
		if t >= p.End {
			return p.All
		}
	case api.Steps, api.Revoke:
		return listed(sums(had(p.Periods[:first(p, t)])...))
	case api.Even:
		if t >= p.End {
			return p.All
		}
		if t <= p.Start {
			return nil
		}
		s := sums(p.All)
		for _, n := range s {
			n.Mul(n, new(big.Int).SetUint64(t-p.Start)).Quo(n, new(big.Int).SetUint64(p.End-p.Start))
		}
		return listed(s)
	}
	return nil
}

// locked is what P6.2 says that Locked is.
func locked(p api.Plan, t uint64) list {
	s, f := sums(p.All), sums(free(p, t))
	for d, n := range s {
		n.Sub(n, f[d])
	}
	return listed(s)
}

// cut is what P6.3 says that Cut is.
func cut(p api.Plan, t uint64) api.Plan {
	many := first(p, t)
	if many == 0 {
		return api.Plan{}
	}
	l := p.Periods[:many]
	return api.Plan{Kind: p.Kind, Start: p.Start, End: ends(p)[many-1].Uint64(), All: listed(sums(had(l)...)), Periods: l}
}

// alike is whether two plans are, whether their lists are nil or not.
func alike(a, b api.Plan) bool {
	if a.Kind != b.Kind || a.Start != b.Start || a.End != b.End || !slices.Equal(a.All, b.All) || len(a.Periods) != len(b.Periods) {
		return false
	}
	for i, q := range a.Periods {
		if q.Length != b.Periods[i].Length || !slices.Equal(q.Coins, b.Periods[i].Coins) {
			return false
		}
	}
	return true
}

// clone is a plan that shares nothing with p.
func clone(p api.Plan) api.Plan {
	p.All, p.Periods = slices.Clone(p.All), slices.Clone(p.Periods)
	for i, q := range p.Periods {
		p.Periods[i].Coins = slices.Clone(q.Coins)
	}
	return p
}

// steps is a plan by periods, whose End and All are what these lead to.
func steps(kind byte, start uint64, l ...api.Period) api.Plan {
	p := api.Plan{Kind: kind, Start: start, Periods: l}
	p.End, p.All = ends(p)[len(l)-1].Uint64(), listed(sums(had(l)...))
	return p
}

// many are so many periods.
func many(n int, length uint64, l list) (all []api.Period) {
	for range n {
		all = append(all, api.Period{Length: length, Coins: slices.Clone(l)})
	}
	return all
}

// small are plans of every kind that are Right.
func small() []api.Plan {
	all := []api.Plan{
		{},
		{All: list{}, Periods: []api.Period{}},
		{Kind: api.Even, Start: 10, End: 20, All: list{of(0, 5)}},
		{Kind: api.Even, Start: 10, End: 20, All: list{of(0, 5), of(3, 100), of(7, 1)}, Periods: []api.Period{}},
		{Kind: api.Even, End: 1, All: list{of(1, 1)}},
		{Kind: api.Even, Start: 3, End: 10, All: list{of(1, 1), of(2, 6), of(3, 7), of(4, 8)}},
		{Kind: api.Late, All: list{of(0, 1)}},
		{Kind: api.Late, End: 7, All: list{of(0, 5)}},
		{Kind: api.Late, End: 1, All: list{of(2, 5), of(3, 256)}, Periods: []api.Period{}},
		{Kind: api.Never, All: list{of(0, 5)}},
		{Kind: api.Never, All: list{of(1, 5), of(7, 5)}, Periods: []api.Period{}},
	}
	for _, kind := range []byte{api.Steps, api.Revoke} {
		all = append(all,
			steps(kind, 0, api.Period{Length: 1, Coins: list{of(0, 1)}}),
			steps(kind, 3, api.Period{Length: 2, Coins: list{of(0, 4)}}, api.Period{Length: 5, Coins: list{of(0, 5)}}),
			steps(kind, 0, api.Period{Length: 7, Coins: list{of(5, 4)}}, api.Period{Length: 1, Coins: list{of(0, 5)}}, api.Period{Length: 2, Coins: list{of(0, 1), of(5, 1), of(7, 1)}}),
		)
	}
	return all
}

// great are plans at the limits: the greatest times, the greatest amounts, as many periods as may be.
func great() []api.Plan {
	all := []api.Plan{
		{Kind: api.Even, End: api.MaxTime, All: full(most)},
		{Kind: api.Even, Start: api.MaxTime - 1, End: api.MaxTime, All: full(most)},
		{Kind: api.Even, Start: api.MaxTime - 7, End: api.MaxTime, All: list{{Denom: 4, N: most}}},
		{Kind: api.Even, Start: 10, End: 13, All: list{of(0, 1), {Denom: 1, N: api.Num{0, 0, 0, 1}}, {Denom: 2, N: api.Num{top - 1, top, top, top}}}},
		{Kind: api.Late, End: api.MaxTime, All: full(most)},
		{Kind: api.Never, All: full(most)},
	}
	for _, kind := range []byte{api.Steps, api.Revoke} {
		all = append(all,
			steps(kind, 0, many(16, 1, list{of(0, 1), of(1, 5)})...),
			steps(kind, 5, many(16, 3, full(api.Num{top, top, top, 1<<60 - 1}))...),
			steps(kind, 0, many(16, api.MaxTime/16, list{of(7, 9)})...),
			steps(kind, api.MaxTime-1, api.Period{Length: 1, Coins: full(most)}),
			steps(kind, 0, api.Period{Length: api.MaxTime, Coins: full(most)}),
			steps(kind, 2, api.Period{Length: 4, Coins: full(api.Num{top - 1, top, top, top})}, api.Period{Length: 4, Coins: full(api.Num{1})}),
		)
	}
	return all
}

func plans() []api.Plan { return append(small(), great()...) }

// times are those at, just ahead of and just behind all that a plan names, and the greatest ones.
func times(p api.Plan) []uint64 {
	l := []uint64{0, 1, 2, api.MaxTime, 1 << 63, top}
	named := []uint64{p.Start, p.End, p.Start + (p.End-p.Start)/2, p.Start + (p.End-p.Start)/3, api.MaxTime}
	for _, end := range ends(p) {
		named = append(named, end.Uint64())
	}
	for _, t := range named {
		if t > 0 {
			l = append(l, t-1)
		}
		l = append(l, t, t+1)
	}
	slices.Sort(l)
	return slices.Compact(l)
}

func TestP6_1Right(t *testing.T) {
	for _, p := range plans() {
		if !plan.Right(p) {
			t.Error(p)
		}
	}
}

func TestP6_1Wrong(t *testing.T) {
	some, one := list{of(0, 5)}, []api.Period{{Length: 5, Coins: list{of(0, 5)}}}
	l := []api.Plan{
		{Start: 1}, {End: 1}, {Start: top}, {All: some}, {All: list{{}}}, {Periods: one}, {Periods: make([]api.Period, 1)},
		{Kind: api.Even}, {Kind: api.Late}, {Kind: api.Never}, {Kind: api.Steps}, {Kind: api.Revoke},
		{Kind: api.Even, Start: 5, End: 5, All: some}, {Kind: api.Even, Start: 6, End: 5, All: some}, {Kind: api.Even, All: some},
		{Kind: api.Even, Start: 1, End: 5}, {Kind: api.Even, Start: 1, End: 5, All: some, Periods: one},
		{Kind: api.Even, Start: 1, End: api.MaxTime + 1, All: some}, {Kind: api.Even, Start: 1, End: top, All: some},
		{Kind: api.Even, Start: api.MaxTime, End: api.MaxTime, All: some}, {Kind: api.Even, Start: api.MaxTime + 1, End: api.MaxTime + 2, All: some},
		{Kind: api.Late, Start: 1, End: 5, All: some}, {Kind: api.Late, End: 5}, {Kind: api.Late, End: 5, All: some, Periods: one},
		{Kind: api.Late, End: api.MaxTime + 1, All: some}, {Kind: api.Late, End: top, All: some},
		{Kind: api.Never, Start: 1, All: some}, {Kind: api.Never, End: 1, All: some}, {Kind: api.Never, All: some, Periods: one},
		{Kind: api.Never, Start: 1, End: top, All: some},
	}
	for _, kind := range []byte{api.Steps, api.Revoke} {
		l = append(l,
			api.Plan{Kind: kind, All: some}, api.Plan{Kind: kind, End: 5, All: some}, api.Plan{Kind: kind, End: 5, All: some, Periods: []api.Period{}},
			api.Plan{Kind: kind, End: 5, Periods: one}, api.Plan{Kind: kind, Start: 1, End: 5, All: some, Periods: one},
			api.Plan{Kind: kind, Start: 6, End: 5, All: some, Periods: one}, api.Plan{Kind: kind, End: 6, All: some, Periods: one},
			steps(kind, 0, many(17, 1, some)...), steps(kind, 0, many(300, 1, some)...),
			steps(kind, api.MaxTime, one...), steps(kind, api.MaxTime-4, one...),
			// a period of no length, or of no coins, or of coins that aren't Right, in a plan whose End and All are what its periods lead to
			steps(kind, 3, api.Period{Coins: some}),
			steps(kind, 3, api.Period{Coins: some}, one[0], one[0]), steps(kind, 3, one[0], api.Period{Coins: some}, one[0]), steps(kind, 3, one[0], one[0], api.Period{Coins: some}),
			steps(kind, 3, api.Period{Length: 1}, one[0]), steps(kind, 3, one[0], api.Period{Length: 1, Coins: list{}}, one[0]), steps(kind, 3, one[0], api.Period{Length: 1}),
			steps(kind, 3, one[0], api.Period{Length: 1, Coins: list{of(0, 0)}}), steps(kind, 3, api.Period{Length: 1, Coins: list{of(3, 1), of(1, 1)}}),
			api.Plan{Kind: kind, End: 5, All: some, Periods: []api.Period{{Length: 5, Coins: list{of(0, 5), of(8, 1)}}}},
			api.Plan{Kind: kind, End: 5, All: some, Periods: []api.Period{{Length: 5, Coins: list{of(0, 5), of(0, 1)}}}},
			// a time that has gone round
			api.Plan{Kind: kind, Start: top, End: 4, All: some, Periods: one},
			api.Plan{Kind: kind, Start: 5, End: 4, All: some, Periods: []api.Period{{Length: top, Coins: some}}},
			api.Plan{Kind: kind, Start: 5, End: 5, All: list{of(0, 10)}, Periods: []api.Period{{Length: top, Coins: some}, {Length: 1, Coins: some}}},
			api.Plan{Kind: kind, Start: 0, End: 8, All: list{of(0, 10)}, Periods: []api.Period{{Length: 9, Coins: some}, {Length: top, Coins: some}}},
			// an amount that has gone round, or was too much on the way
			api.Plan{Kind: kind, End: 3, All: some, Periods: []api.Period{{Length: 1, Coins: list{{N: most}}}, {Length: 1, Coins: list{of(0, 1)}}, {Length: 1, Coins: some}}},
			api.Plan{Kind: kind, End: 2, All: some, Periods: []api.Period{{Length: 1, Coins: list{{N: most}}}, {Length: 1, Coins: list{of(0, 6)}}}},
			api.Plan{Kind: kind, End: 2, All: list{of(1, 1)}, Periods: []api.Period{{Length: 1, Coins: list{{N: most}, of(1, 1)}}, {Length: 1, Coins: list{of(0, 1)}}}},
			api.Plan{Kind: kind, End: 2, All: list{{N: most}}, Periods: []api.Period{{Length: 1, Coins: list{{N: most}}}, {Length: 1, Coins: list{{N: most}}}}},
		)
	}
	for kind := 6; kind < 256; kind++ {
		l = append(l, api.Plan{Kind: byte(kind)}, api.Plan{Kind: byte(kind), End: 5, All: some}, api.Plan{Kind: byte(kind), End: 5, All: some, Periods: one})
	}
	for _, p := range l {
		if plan.Right(p) {
			t.Error(p)
		}
	}
}

// changes are plans that have one thing otherwise than p.
func changes(p api.Plan) (l []api.Plan) {
	add := func(change func(q *api.Plan)) {
		q := clone(p)
		change(&q)
		if !alike(p, q) {
			l = append(l, q)
		}
	}
	for kind := range 256 {
		add(func(q *api.Plan) { q.Kind = byte(kind) })
	}
	for _, n := range []uint64{0, 1, p.Start - 1, p.Start + 1, p.End - 1, p.End, p.End + 1, api.MaxTime, api.MaxTime + 1, top} {
		add(func(q *api.Plan) { q.Start = n })
		add(func(q *api.Plan) { q.End = n })
		for i := range p.Periods {
			add(func(q *api.Plan) { q.Periods[i].Length = n })
			add(func(q *api.Plan) { q.Periods[i].Length += n })
		}
	}
	for _, c := range otherwise(p.All) {
		add(func(q *api.Plan) { q.All = c })
	}
	for i := range p.Periods {
		for _, c := range otherwise(p.Periods[i].Coins) {
			add(func(q *api.Plan) { q.Periods[i].Coins = c })
		}
		add(func(q *api.Plan) { q.Periods = slices.Delete(q.Periods, i, i+1) })
		add(func(q *api.Plan) { q.Periods = slices.Insert(q.Periods, i, q.Periods[i]) })
		add(func(q *api.Plan) { q.Periods[0], q.Periods[i] = q.Periods[i], q.Periods[0] })
	}
	add(func(q *api.Plan) { q.Periods = append(q.Periods, api.Period{}) })
	add(func(q *api.Plan) { q.Periods = append(q.Periods, api.Period{Length: 1, Coins: list{of(0, 1)}}) })
	add(func(q *api.Plan) { q.Periods = nil })
	add(func(q *api.Plan) { q.Periods = make([]api.Period, 17) })
	return l
}

// otherwise are other lists than l.
func otherwise(l list) []list {
	all := append(wrong(), nil, list{of(0, 1)}, list{of(6, 1)}, full(most), full(api.Num{1}))
	for i := range l {
		all = append(all, slices.Delete(slices.Clone(l), i, i+1))
		for part := range 4 {
			for _, by := range []uint64{1, top} {
				c := slices.Clone(l)
				c[i].N[part] += by
				all = append(all, c)
			}
		}
		for _, denom := range []byte{l[i].Denom - 1, l[i].Denom + 1, 8} {
			c := slices.Clone(l)
			c[i].Denom = denom
			all = append(all, c)
		}
	}
	return all
}

func TestP6_1OneThingChanged(t *testing.T) {
	well := map[byte]int{}
	for _, p := range plans() {
		for _, q := range changes(p) {
			want := mayBe(q)
			if plan.Right(q) != want {
				t.Errorf("%v: not %v", q, want)
			}
			if want {
				well[q.Kind]++
			}
		}
	}
	for kind := byte(1); kind < 6; kind++ {
		if well[kind] == 0 {
			t.Error("no change left a plan Right of kind", kind)
		}
	}
}

func TestP6_2Examples(t *testing.T) {
	even := api.Plan{Kind: api.Even, Start: 10, End: 20, All: list{of(0, 5)}}
	both := api.Plan{Kind: api.Even, Start: 10, End: 20, All: list{of(0, 5), of(3, 100), of(7, 1)}}
	late := api.Plan{Kind: api.Late, End: 7, All: list{of(2, 5)}}
	never := api.Plan{Kind: api.Never, All: list{of(2, 5)}}
	byStep := steps(api.Steps, 3, api.Period{Length: 2, Coins: list{of(0, 4)}}, api.Period{Length: 5, Coins: list{of(0, 5), of(1, 1)}})
	revoke := clone(byStep)
	revoke.Kind = api.Revoke
	for _, c := range []struct {
		p            api.Plan
		t            uint64
		free, locked list
	}{
		{api.Plan{}, 0, nil, nil}, {api.Plan{}, top, nil, nil},
		{even, 0, nil, list{of(0, 5)}}, {even, 10, nil, list{of(0, 5)}}, {even, 11, nil, list{of(0, 5)}},
		{even, 12, list{of(0, 1)}, list{of(0, 4)}}, {even, 13, list{of(0, 1)}, list{of(0, 4)}}, {even, 14, list{of(0, 2)}, list{of(0, 3)}},
		{even, 19, list{of(0, 4)}, list{of(0, 1)}}, {even, 20, list{of(0, 5)}, nil}, {even, 21, list{of(0, 5)}, nil}, {even, top, list{of(0, 5)}, nil},
		{both, 11, list{of(3, 10)}, list{of(0, 5), of(3, 90), of(7, 1)}}, {both, 19, list{of(0, 4), of(3, 90)}, list{of(0, 1), of(3, 10), of(7, 1)}},
		{late, 0, nil, list{of(2, 5)}}, {late, 6, nil, list{of(2, 5)}}, {late, 7, list{of(2, 5)}, nil}, {late, 8, list{of(2, 5)}, nil}, {late, top, list{of(2, 5)}, nil},
		{never, 0, nil, list{of(2, 5)}}, {never, api.MaxTime, nil, list{of(2, 5)}}, {never, top, nil, list{of(2, 5)}},
		{byStep, 0, nil, list{of(0, 9), of(1, 1)}}, {byStep, 3, nil, list{of(0, 9), of(1, 1)}}, {byStep, 4, nil, list{of(0, 9), of(1, 1)}},
		{byStep, 5, list{of(0, 4)}, list{of(0, 5), of(1, 1)}}, {byStep, 9, list{of(0, 4)}, list{of(0, 5), of(1, 1)}},
		{byStep, 10, list{of(0, 9), of(1, 1)}, nil}, {byStep, top, list{of(0, 9), of(1, 1)}, nil},
		{revoke, 4, nil, list{of(0, 9), of(1, 1)}}, {revoke, 5, list{of(0, 4)}, list{of(0, 5), of(1, 1)}}, {revoke, 10, list{of(0, 9), of(1, 1)}, nil},
	} {
		if l := plan.Vested(c.p, c.t); !slices.Equal(l, c.free) {
			t.Error("Vested", c, l)
		}
		if l := plan.Locked(c.p, c.t); !slices.Equal(l, c.locked) {
			t.Error("Locked", c, l)
		}
	}
}

func TestP6_2VestedAndLocked(t *testing.T) {
	for _, p := range plans() {
		for _, at := range times(p) {
			f, l := plan.Vested(p, at), plan.Locked(p, at)
			if !slices.Equal(f, free(p, at)) {
				t.Errorf("%v at %d: free %v, not %v", p, at, f, free(p, at))
			}
			if !slices.Equal(l, locked(p, at)) {
				t.Errorf("%v at %d: locked %v, not %v", p, at, l, locked(p, at))
			}
			if both, e := coins.Add(f, l); e != api.OK || !coins.Right(f) || !coins.Right(l) || !coins.Same(both, p.All) {
				t.Errorf("%v at %d: %v and %v", p, at, f, l)
			}
		}
	}
}

func TestP6_3Examples(t *testing.T) {
	a, b, c := api.Period{Length: 2, Coins: list{of(0, 4)}}, api.Period{Length: 5, Coins: list{of(0, 5), of(1, 1)}}, api.Period{Length: 1, Coins: list{of(7, 2)}}
	for _, kind := range []byte{api.Steps, api.Revoke} {
		p := steps(kind, 3, a, b, c)
		one := api.Plan{Kind: kind, Start: 3, End: 5, All: list{of(0, 4)}, Periods: []api.Period{a}}
		two := api.Plan{Kind: kind, Start: 3, End: 10, All: list{of(0, 9), of(1, 1)}, Periods: []api.Period{a, b}}
		for at, want := range []api.Plan{{}, {}, {}, {}, {}, one, one, one, one, one, two, p, p} {
			if q := plan.Cut(p, uint64(at)); !alike(q, want) {
				t.Error(at, q)
			}
		}
		if q := plan.Cut(p, top); !alike(q, p) {
			t.Error(q)
		}
	}
}

// What is cut is never locked again, and what was free ahead of it still is.
func TestP6_3Cut(t *testing.T) {
	for _, p := range plans() {
		for _, at := range times(p) {
			q := plan.Cut(p, at)
			if !alike(q, cut(p, at)) || !plan.Right(q) {
				t.Errorf("%v cut at %d: %v, not %v", p, at, q, cut(p, at))
			}
			for _, when := range times(p) {
				if l := plan.Locked(q, when); when >= at && len(l) > 0 {
					t.Errorf("%v cut at %d: %v is locked at %d", p, at, l, when)
				}
				if len(p.Periods) > 0 && when <= at && !slices.Equal(plan.Vested(q, when), plan.Vested(p, when)) {
					t.Errorf("%v cut at %d: other coins are free at %d", p, at, when)
				}
			}
		}
	}
}

func TestP6_4Same(t *testing.T) {
	all := plans()
	for i, p := range all {
		if !plan.Same(p, p) || !plan.Same(p, clone(p)) {
			t.Error(p)
		}
		for _, q := range changes(p) {
			if plan.Right(q) && (plan.Same(p, q) || plan.Same(q, p)) {
				t.Error(p, q)
			}
		}
		for j, q := range all {
			if plan.Same(p, q) != alike(p, q) {
				t.Error(i, j, p, q)
			}
		}
	}
	for _, c := range []struct{ a, b api.Plan }{
		{api.Plan{}, api.Plan{All: list{}}}, {api.Plan{}, api.Plan{Periods: []api.Period{}}}, {api.Plan{}, api.Plan{All: list{}, Periods: []api.Period{}}},
		{api.Plan{Kind: api.Late, All: list{of(0, 1)}}, api.Plan{Kind: api.Late, All: list{of(0, 1)}, Periods: []api.Period{}}},
		{api.Plan{Kind: api.Late, All: list{of(0, 1)}}, api.Plan{Kind: api.Late, All: append(make(list, 0, 9), of(0, 1)), Periods: make([]api.Period, 0, 9)}},
	} {
		if !plan.Same(c.a, c.b) || !plan.Same(c.b, c.a) || !plan.Right(c.a) || !plan.Right(c.b) {
			t.Error(c)
		}
	}
}

// Each field alone tells two plans apart, also where no more than one of them may be.
func TestP6_4SameByEachField(t *testing.T) {
	p := steps(api.Steps, 3, api.Period{Length: 2, Coins: list{of(0, 4)}}, api.Period{Length: 5, Coins: list{of(0, 5)}})
	for _, q := range changes(p) {
		if plan.Same(p, q) || plan.Same(q, p) || !plan.Same(q, q) {
			t.Error(q)
		}
	}
}

// scribble writes over all of a plan's lists, and over the room behind them.
func scribble(p api.Plan) {
	paint(p.All)
	l := p.Periods[:cap(p.Periods)]
	for i := range l {
		paint(l[i].Coins)
		l[i] = api.Period{Length: 99, Coins: list{of(9, 9)}}
	}
}

func paint(l list) {
	l = l[:cap(l)]
	for i := range l {
		l[i] = of(9, 9)
	}
}

// roomy is p, with room behind each of its lists.
func roomy(p api.Plan) api.Plan {
	q := api.Plan{Kind: p.Kind, Start: p.Start, End: p.End, All: append(make(list, 0, 20), p.All...), Periods: make([]api.Period, 0, 40)}
	for _, d := range p.Periods {
		q.Periods = append(q.Periods, api.Period{Length: d.Length, Coins: append(make(list, 0, 20), d.Coins...)})
	}
	return q
}

func TestNothingIsShared(t *testing.T) {
	for _, p := range plans() {
		for _, at := range times(p) {
			given := roomy(p)
			f, l, q := plan.Vested(given, at), plan.Locked(given, at), plan.Cut(given, at)
			plan.Right(given)
			plan.Same(given, given)
			if !alike(given, p) || slices.ContainsFunc(given.All[len(p.All):20], func(c api.Coin) bool { return c != api.Coin{} }) {
				t.Fatal("written into what was handed in", p, at)
			}
			paint(f)
			paint(l)
			if !alike(q, cut(p, at)) {
				t.Fatal("two answers share", p, at)
			}
			scribble(q)
			if !alike(given, p) {
				t.Fatal("an answer shares with what was handed in", p, at)
			}
			f, l, q = plan.Vested(given, at), plan.Locked(given, at), plan.Cut(given, at)
			scribble(given)
			if !slices.Equal(f, free(p, at)) || !slices.Equal(l, locked(p, at)) || !alike(q, cut(p, at)) {
				t.Fatal("an answer changes with what was handed in", p, at)
			}
			paint(q.All)
			for i, d := range q.Periods {
				if !slices.Equal(d.Coins, p.Periods[i].Coins) {
					t.Fatal("lists of one answer share", p, at)
				}
				paint(d.Coins)
			}
		}
	}
}

// P1: of plans that aren't Right no more is asked than that each call ends.
func TestP1AnyPlan(t *testing.T) {
	r := rand.New(rand.NewPCG(6, 1))
	edge := func() uint64 {
		l := []uint64{0, 1, 2, 5, api.MaxTime, api.MaxTime + 1, 1 << 63, top - 1, top}
		return l[r.IntN(len(l))]
	}
	lists := append(wrong(), nil, list{of(0, 1)}, full(most))
	for range 20000 {
		p := api.Plan{Kind: byte(r.IntN(8)), Start: edge(), End: edge(), All: lists[r.IntN(len(lists))]}
		for range []int{0, 1, 2, 16, 17, 300}[r.IntN(6)] {
			p.Periods = append(p.Periods, api.Period{Length: edge(), Coins: lists[r.IntN(len(lists))]})
		}
		if plan.Right(p) != mayBe(p) {
			t.Error(p)
		}
		at := edge()
		plan.Vested(p, at)
		plan.Locked(p, at)
		plan.Cut(p, at)
		plan.Same(p, p)
	}
	for _, p := range small() {
		for _, q := range changes(p) {
			for _, at := range times(api.Plan{Start: q.Start, End: q.End}) {
				plan.Vested(q, at)
				plan.Locked(q, at)
				plan.Cut(q, at)
			}
		}
	}
}
