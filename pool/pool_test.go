package pool_test

import (
	"cmp"
	"fmt"
	"math/rand/v2"
	"slices"
	"strings"
	"testing"

	"jointure/api"
	"jointure/bank"
	"jointure/person"
	"jointure/pool"
	"jointure/store"
)

const top = 1<<64 - 1

var most = api.Num{top, top, top, top}

type list = []api.Coin

func n(x uint64) api.Num { return api.Num{x} }

// of is a coin of x.
func of(denom byte, x uint64) api.Coin { return api.Coin{Denom: denom, N: api.Num{x}} }

// full is x of each denomination.
func full(x api.Num) list {
	var l list
	for d := range byte(api.MaxDenom) {
		l = append(l, api.Coin{Denom: d, N: x})
	}
	return l
}

// nums are some, with the edges of their parts.
func nums() []api.Num {
	return []api.Num{{}, {1}, {255}, {256}, {10000}, {top}, {0, 1}, {0, 0, 1}, {0, 0, 0, 1}, {0, 0, 0, 1 << 63}, {4, 3, 2, 1}, most}
}

// rightLists are some that may be.
func rightLists() []list {
	return []list{nil, {}, {of(0, 1)}, {of(7, 1)}, {of(0, 256), of(7, 5)}, {of(1, 1), of(2, top), of(3, 1<<40)}, {{Denom: 5, N: most}}, full(n(1)), full(most)}
}

// wrongLists are some that may not be.
func wrongLists() []list {
	return []list{
		{{}}, {of(3, 0)}, {of(0, 1), of(1, 0)}, {of(8, 1)}, {of(255, 1)}, {of(7, 1), of(8, 1)},
		{of(1, 1), of(1, 1)}, {of(1, 1), of(0, 1)}, {of(7, 1), of(0, 1)}, {of(0, 1), of(2, 1), of(1, 1)},
		append(full(most), of(7, 1)), append(full(n(1)), of(8, 1)), make(list, 256), make(list, 300),
	}
}

// validators are some that may be: each field with its edges.
func validators() []api.Validator {
	l := []api.Validator{
		{}, {Owner: 1}, {Owner: 199}, {Rate: 1}, {Rate: 255}, {Rate: 256}, {Rate: 9999}, {Rate: 10000}, {Jailed: true},
		{Owner: 199, Rate: 10000, Jailed: true, Tokens: most, Shares: most, Index: full(most), Earned: full(most)},
		{Owner: 3, Rate: 258, Tokens: n(5), Shares: n(6), Index: list{of(1, 7)}, Earned: list{of(2, 8)}},
	}
	for i, x := range nums() {
		l = append(l, api.Validator{Owner: byte(i), Tokens: x}, api.Validator{Rate: uint16(i), Shares: x})
	}
	for _, c := range rightLists() {
		l = append(l, api.Validator{Owner: 9, Index: c}, api.Validator{Jailed: true, Earned: c})
	}
	return l
}

// wrongValidators are some that may not be, each for one thing, or for more of them.
func wrongValidators() []api.Validator {
	l := []api.Validator{
		{Owner: 200}, {Owner: 204}, {Owner: 205}, {Owner: 255}, {Rate: 10001}, {Rate: 1 << 15}, {Rate: 1<<16 - 1},
		{Owner: 200, Rate: 10001}, {Owner: 222, Jailed: true, Tokens: n(5), Shares: n(6), Index: list{of(1, 7)}, Earned: list{of(2, 8)}},
	}
	for _, c := range wrongLists() {
		l = append(l, api.Validator{Index: c}, api.Validator{Earned: c}, api.Validator{Owner: 199, Rate: 10000, Index: c, Earned: full(most)}, api.Validator{Index: full(n(1)), Earned: c}, api.Validator{Owner: 200, Index: c, Earned: c})
	}
	return l
}

// A pair is the owner and the validator of a delegation.
type pair struct{ owner, val byte }

// cloneList is a list that shares nothing with l, and has room behind it.
func cloneList(l list) list { return append(slices.Clone(l), of(5, 55))[:len(l)] }

func cloneVal(v api.Validator) api.Validator {
	v.Index, v.Earned = cloneList(v.Index), cloneList(v.Earned)
	return v
}

func cloneDel(d api.Delegation) api.Delegation {
	d.Index = cloneList(d.Index)
	return d
}

// paint writes over lists, and over the room behind them.
func paint(lists ...list) {
	for _, l := range lists {
		for i := range l[:cap(l)] {
			l[:cap(l)][i] = of(6, 66)
		}
	}
}

// sameVal is whether two validators are alike, whether their lists of nothing are nil or not.
func sameVal(a, b api.Validator) bool {
	return a.Id == b.Id && a.Owner == b.Owner && a.Rate == b.Rate && a.Jailed == b.Jailed && a.Tokens == b.Tokens && a.Shares == b.Shares &&
		slices.Equal(a.Index, b.Index) && slices.Equal(a.Earned, b.Earned)
}

func sameDel(a, b api.Delegation) bool {
	return a.Owner == b.Owner && a.Val == b.Val && a.Shares == b.Shares && slices.Equal(a.Index, b.Index)
}

// right is what P2.1 says of a list.
func right(l list) bool {
	for i, c := range l {
		if c.Denom > 7 || c.N == (api.Num{}) || i > 0 && l[i-1].Denom >= c.Denom {
			return false
		}
	}
	return true
}

// A both is a store with validators and delegations, and what P11.1 and P11.2 say that they are.
type both struct {
	t     *testing.T
	s     *store.Store
	vals  []api.Validator
	dels  map[pair]api.Delegation
	steps []string
}

func start(t *testing.T) *both {
	return &both{t: t, s: store.New(), dels: map[pair]api.Delegation{}}
}

// wrong tells a fault, and which steps went ahead of it.
func (b *both) wrong(what string, more ...any) {
	b.t.Helper()
	b.t.Fatalf("behind %s: %s %v", strings.Join(b.steps, ", "), what, more)
}

// add, setVal and set do a deed, with lent lists that are written over behind it, and hold its answer against what it should be.
func (b *both) add(owner byte, rate uint16) api.Errno {
	b.t.Helper()
	b.steps = append(b.steps, fmt.Sprint("Add ", owner, " ", rate))
	want, id := api.OK, byte(0)
	if owner > 199 || rate > 10000 {
		want = api.ErrArg
	} else if len(b.vals) == 16 {
		want = api.ErrFull
	} else {
		id = byte(len(b.vals))
		b.vals = append(b.vals, api.Validator{Id: id, Owner: owner, Rate: rate})
	}
	if got, e := pool.Add(b.s, owner, rate); got != id || e != want {
		b.wrong("it answers", got, e, "want", id, want)
	}
	return want
}

func (b *both) setVal(v api.Validator) api.Errno {
	b.t.Helper()
	b.steps = append(b.steps, fmt.Sprint("SetVal ", v.Id))
	want := api.OK
	if v.Owner > 199 || v.Rate > 10000 || !right(v.Index) || !right(v.Earned) {
		want = api.ErrArg
	} else if int(v.Id) >= len(b.vals) {
		want = api.ErrNone
	} else {
		b.vals[v.Id] = cloneVal(v)
	}
	lent := cloneVal(v)
	if e := pool.SetVal(b.s, lent); e != want {
		b.wrong("it answers", e, "want", want)
	}
	if !sameVal(lent, v) {
		b.wrong("written into what was handed in", lent)
	}
	paint(lent.Index, lent.Earned)
	return want
}

func (b *both) set(d api.Delegation) api.Errno {
	b.t.Helper()
	b.steps = append(b.steps, fmt.Sprint("Set ", d.Owner, " ", d.Val, " ", d.Shares))
	want := api.OK
	if d.Owner > 199 || !right(d.Index) {
		want = api.ErrArg
	} else if int(d.Val) >= len(b.vals) {
		want = api.ErrNone
	} else if d.Shares == (api.Num{}) {
		delete(b.dels, pair{d.Owner, d.Val})
	} else {
		b.dels[pair{d.Owner, d.Val}] = cloneDel(d)
	}
	lent := cloneDel(d)
	if e := pool.Set(b.s, lent); e != want {
		b.wrong("it answers", e, "want", want)
	}
	if !sameDel(lent, d) {
		b.wrong("written into what was handed in", lent)
	}
	paint(lent.Index)
	return want
}

// lookVals holds what Val and Vals answer against what is there, and writes over it.
func (b *both) lookVals() {
	b.t.Helper()
	all := pool.Vals(b.s)
	if len(all) != len(b.vals) {
		b.wrong("Vals", len(all), "want", len(b.vals))
	}
	for id := range 256 {
		var want api.Validator
		there := id < len(b.vals)
		if there {
			want = b.vals[id]
			if !sameVal(all[id], want) {
				b.wrong("Vals", id, all[id], "want", want)
			}
			paint(all[id].Index)
			if !slices.Equal(all[id].Earned, want.Earned) {
				b.wrong("lists of one answer share", all[id])
			}
			paint(all[id].Earned) // none of those behind it may change
		}
		v, ok := pool.Val(b.s, byte(id))
		if ok != there || !sameVal(v, want) {
			b.wrong("Val", id, ok, v, "want", want)
		}
		paint(v.Index, v.Earned)
	}
}

// lookAt holds what Get answers against what is there, and writes over it.
func (b *both) lookAt(owner, val byte) {
	b.t.Helper()
	want, there := b.dels[pair{owner, val}]
	d, ok := pool.Get(b.s, owner, val)
	if ok != there || !sameDel(d, want) {
		b.wrong("Get", owner, val, ok, d, "want", want)
	}
	paint(d.Index)
}

// are holds a list of delegations against what is there of those that it should be of, by owners, then by validators, and writes over it.
func (b *both) are(what string, l []api.Delegation, asked func(pair) bool) {
	b.t.Helper()
	var keys []pair
	for k := range b.dels {
		if asked(k) {
			keys = append(keys, k)
		}
	}
	slices.SortFunc(keys, func(p, q pair) int {
		return cmp.Or(cmp.Compare(p.owner, q.owner), cmp.Compare(p.val, q.val))
	})
	if len(l) != len(keys) {
		b.wrong(what, l, "want", keys)
	}
	for i, k := range keys {
		if !sameDel(l[i], b.dels[k]) {
			b.wrong(what, i, l[i], "want", b.dels[k])
		}
		paint(l[i].Index) // none of those behind it may change
	}
}

// look looks at all that there is, in each way of asking, and at much that there isn't.
func (b *both) look() {
	b.t.Helper()
	b.lookVals()
	b.are("All", pool.All(b.s), func(pair) bool { return true })
	for owner := range 256 {
		b.are(fmt.Sprint("Of ", owner), pool.Of(b.s, byte(owner)), func(k pair) bool { return k.owner == byte(owner) })
		for val := range byte(18) {
			b.lookAt(byte(owner), val)
		}
		b.lookAt(byte(owner), 255)
		b.lookAt(byte(owner), byte(owner))
	}
	b.are("All again", pool.All(b.s), func(pair) bool { return true })
}

// with is a both with so many validators, which differ in all that they have.
func with(t *testing.T, many int) *both {
	b := start(t)
	for i := range many {
		b.add(byte(7*i%200), uint16(600*i))
		k := uint64(i)
		b.setVal(api.Validator{Id: byte(i), Owner: byte(7 * i % 200), Rate: uint16(600 * i), Jailed: i%3 == 1, Tokens: n(100 + k), Shares: n(300 + k), Index: list{of(0, 1+k)}, Earned: list{of(byte(i%8), 500+k)}})
	}
	return b
}

// begun is a both with some validators and some delegations.
func begun(t *testing.T) *both {
	b := with(t, 5)
	for _, d := range []api.Delegation{
		{Owner: 9, Val: 1, Shares: n(1), Index: list{of(1, 5)}}, {Owner: 2, Val: 4, Shares: most, Index: full(most)},
		{Owner: 199, Val: 0, Shares: n(256)}, {Owner: 2, Val: 0, Shares: n(3), Index: list{of(7, 1)}}, {Owner: 0, Val: 4, Shares: api.Num{0, 1}},
	} {
		if e := b.set(d); e != api.OK {
			b.wrong("Set", e)
		}
	}
	return b
}

func TestExample(t *testing.T) {
	s := store.New()
	for want := range byte(2) {
		if id, e := pool.Add(s, 1, 0); id != want || e != api.OK {
			t.Error(id, e)
		}
	}
	if e := pool.Set(s, api.Delegation{Owner: 3, Val: 1, Shares: n(5)}); e != api.OK {
		t.Error(e)
	}
	if d, ok := pool.Get(s, 3, 1); !ok || d.Shares != n(5) {
		t.Error(d, ok)
	}
	if e := pool.Set(s, api.Delegation{Owner: 3, Val: 1}); e != api.OK {
		t.Error(e)
	}
	if d, ok := pool.Get(s, 3, 1); ok || !sameDel(d, api.Delegation{}) || len(pool.All(s)) != 0 || len(pool.Of(s, 3)) != 0 {
		t.Error(d, ok)
	}
}

// The first one, the next ones, as many as there may be, and more of them; of one owner, of several.
func TestP11_1Add(t *testing.T) {
	for _, owner := range []func(int) byte{func(int) byte { return 7 }, func(i int) byte { return byte(199 - i) }, func(i int) byte { return byte(i / 2) }} {
		b := start(t)
		b.look()
		for i := range api.MaxVals {
			if e := b.add(owner(i), uint16(i*625)); e != api.OK {
				t.Error(i, e)
			}
			v, ok := pool.Val(b.s, byte(i))
			if !ok || !sameVal(v, api.Validator{Id: byte(i), Owner: owner(i), Rate: uint16(i * 625)}) {
				t.Error(v, ok)
			}
			b.look()
		}
		was := b.s.Copy()
		for range 3 {
			if e := b.add(7, 0); e != api.ErrFull {
				t.Error(e)
			}
			// that it may not be is ahead of that there is no place
			if b.add(200, 0) != api.ErrArg || b.add(7, 10001) != api.ErrArg {
				t.Error("which error")
			}
		}
		if !store.Same(b.s, was) {
			t.Error("something is done")
		}
		b.look()
	}
}

// Each owner, and rates at their edges; with an error nothing is done, and none is counted.
func TestP11_1AddEach(t *testing.T) {
	for x := range 256 {
		for _, rate := range []uint16{0, 1, 255, 256, 9999, 10000, 10001, 10256, 1 << 15, 1<<16 - 1} {
			b := start(t)
			want := api.OK
			if x >= 200 || rate > 10000 {
				want = api.ErrArg
			}
			if e := b.add(byte(x), rate); e != want {
				t.Error(x, rate, e)
			}
			if want != api.OK && b.s.Len() != 0 {
				t.Error(x, rate, "something is done")
			}
			b.lookVals()
			b.add(3, 5)
			b.lookVals()
		}
	}
}

// All that is in a validator is told as it came, and what it was before is gone.
func TestP11_1AsItCame(t *testing.T) {
	b := with(t, 3)
	for _, id := range []byte{1, 0, 2} {
		for _, v := range validators() {
			v.Id = id
			if e := b.setVal(v); e != api.OK {
				t.Error(v, e)
			}
			got, ok := pool.Val(b.s, id)
			if !ok || got.Id != id || got.Owner != v.Owner || got.Rate != v.Rate || got.Jailed != v.Jailed || got.Tokens != v.Tokens || got.Shares != v.Shares || !slices.Equal(got.Index, v.Index) || !slices.Equal(got.Earned, v.Earned) {
				t.Error(got, ok, "want", v)
			}
			b.lookVals()
		}
	}
	b.look()
}

// Each Owner, and each Rate near its edge.
func TestP11_1SetValEach(t *testing.T) {
	b := with(t, 2)
	for x := range 256 {
		want := api.OK
		if x >= 200 {
			want = api.ErrArg
		}
		if e := b.setVal(api.Validator{Id: 1, Owner: byte(x), Rate: uint16(x)}); e != want {
			t.Error(x, e)
		}
		b.lookVals()
	}
	for rate := 9900; rate < 10300; rate++ {
		want := api.OK
		if rate > 10000 {
			want = api.ErrArg
		}
		if e := b.setVal(api.Validator{Id: 1, Owner: 3, Rate: uint16(rate)}); e != want {
			t.Error(rate, e)
		}
	}
	b.look()
}

// Of each Id, with each count of those that there are: those that may be, and those that may not.
func TestP11_1SetValNone(t *testing.T) {
	for many := range api.MaxVals + 1 {
		b := with(t, many)
		for id := range 256 {
			want := api.OK
			if id >= many {
				want = api.ErrNone
			}
			was := b.s.Copy()
			if e := b.setVal(api.Validator{Id: byte(id), Owner: 199, Rate: 10000, Shares: n(uint64(id)), Earned: list{of(3, 4)}}); e != want {
				t.Error(many, id, e)
			}
			if want != api.OK && !store.Same(b.s, was) {
				t.Error(many, id, "something is done")
			}
		}
		b.lookVals()
	}
}

// What may not be is ErrArg, of an Id that there is and of one that there isn't, and nothing is done.
func TestP11_1SetValWrong(t *testing.T) {
	for _, b := range []*both{start(t), begun(t), with(t, 16)} {
		was := b.s.Copy()
		b.s.Begin()
		for _, v := range wrongValidators() {
			for _, id := range []byte{0, 1, 4, 5, 15, 16, 17, 255} {
				v.Id = id
				if e := b.setVal(v); e != api.ErrArg {
					t.Error(v, e)
				}
			}
		}
		if !store.Same(b.s, was) || b.s.Depth() != 1 {
			t.Error("something is done", b.s.Depth())
		}
		b.look()
	}
}

// None, one, and so on up to all: rising, with what they have, whichever was set last.
func TestP11_1Vals(t *testing.T) {
	if l := pool.Vals(store.New()); len(l) != 0 {
		t.Error(l)
	}
	for many := range api.MaxVals + 1 {
		b := with(t, many)
		for i := range many {
			b.setVal(api.Validator{Id: byte(many - 1 - i), Owner: byte(i), Tokens: n(uint64(i))})
		}
		for i, v := range pool.Vals(b.s) {
			if int(v.Id) != i || int(v.Owner) != many-1-i {
				t.Error(i, v)
			}
		}
		b.look()
		b.add(5, 6) // its Id is how many there were
		b.look()
	}
}

// All that is in a delegation is told as it came, and what it was before is gone.
func TestP11_2AsItCame(t *testing.T) {
	b := with(t, 16)
	for _, k := range []pair{{0, 0}, {199, 15}, {15, 0}, {0, 15}, {7, 7}} {
		for _, shares := range nums()[1:] {
			for _, index := range rightLists() {
				d := api.Delegation{Owner: k.owner, Val: k.val, Shares: shares, Index: index}
				if e := b.set(d); e != api.OK {
					t.Error(d, e)
				}
				got, ok := pool.Get(b.s, k.owner, k.val)
				if !ok || got.Owner != k.owner || got.Val != k.val || got.Shares != shares || !slices.Equal(got.Index, index) {
					t.Error(got, ok, "want", d)
				}
			}
		}
		b.are("Of", pool.Of(b.s, k.owner), func(q pair) bool { return q.owner == k.owner })
	}
	b.look()
}

// One that there isn't yet, one that there is, with shares and with none: then there is none, and it may be again.
func TestP11_2None(t *testing.T) {
	b := begun(t)
	many := b.s.Len()
	for range 2 {
		for _, d := range []api.Delegation{
			{Owner: 4, Val: 3}, {Owner: 4, Val: 3, Index: full(most)}, // there is none, and there is none then
			{Owner: 4, Val: 3, Shares: n(5), Index: list{of(2, 2)}}, {Owner: 4, Val: 3, Shares: n(4)}, {Owner: 4, Val: 3, Shares: n(4)}, {Owner: 4, Val: 3, Shares: api.Num{0, 0, 0, 1}, Index: list{of(0, 1)}},
			{Owner: 4, Val: 2, Shares: n(1)}, {Owner: 4, Val: 3, Index: list{of(2, 2)}}, {Owner: 4, Val: 3}, {Owner: 4, Val: 2},
		} {
			if e := b.set(d); e != api.OK {
				t.Error(d, e)
			}
			if _, ok := pool.Get(b.s, d.Owner, d.Val); ok != (d.Shares != api.Num{}) {
				t.Error(d, ok)
			}
			b.look()
		}
		if len(pool.Of(b.s, 4)) != 0 || b.s.Len() != many {
			t.Error("it is kept", b.s.Len())
		}
	}
	for k := range begun(t).dels {
		b.set(api.Delegation{Owner: k.owner, Val: k.val})
		b.look()
	}
	if l := pool.All(b.s); len(l) != 0 {
		t.Error(l)
	}
}

// Each owner and each validator, with shares and with none; and with an Index that may not be, which is ahead of that there is no validator.
func TestP11_2SetEach(t *testing.T) {
	for _, many := range []int{0, 1, 5, 16} {
		b := with(t, many)
		was := b.s.Copy()
		for owner := range 256 {
			for _, val := range []int{0, 1, 4, 5, 15, 16, 17, 200, 255} {
				want := api.OK
				if owner >= 200 {
					want = api.ErrArg
				} else if val >= many {
					want = api.ErrNone
				}
				for _, d := range []api.Delegation{{Shares: n(7)}, {Shares: most, Index: full(n(3))}, {Index: list{of(1, 1)}}, {}} {
					d.Owner, d.Val = byte(owner), byte(val)
					if e := b.set(d); e != want {
						t.Error(many, d, e)
					}
					b.lookAt(d.Owner, d.Val)
				}
			}
		}
		if !store.Same(b.s, was) {
			t.Error("it isn't as it was")
		}
		b.look()
	}
}

func TestP11_2SetWrong(t *testing.T) {
	for _, b := range []*both{start(t), begun(t), with(t, 16)} {
		was := b.s.Copy()
		b.s.Begin()
		for _, index := range wrongLists() {
			for _, k := range []pair{{9, 1}, {2, 4}, {2, 0}, {0, 0}, {199, 4}, {9, 15}, {9, 16}, {9, 255}, {200, 1}, {255, 255}} {
				for _, shares := range []api.Num{{}, {1}, most} {
					if e := b.set(api.Delegation{Owner: k.owner, Val: k.val, Shares: shares, Index: index}); e != api.ErrArg {
						t.Error(k, index, e)
					}
				}
			}
		}
		for _, d := range []api.Delegation{{Owner: 200, Val: 1}, {Owner: 200, Val: 16, Shares: n(1)}, {Owner: 255, Val: 255}, {Owner: 204, Val: 4, Shares: n(1)}} {
			if e := b.set(d); e != api.ErrArg {
				t.Error(d, e)
			}
		}
		for _, d := range []api.Delegation{{Owner: 0, Val: 16}, {Owner: 199, Val: 255, Shares: n(1)}, {Owner: 9, Val: 17, Index: full(most)}} {
			if e := b.set(d); e != api.ErrNone {
				t.Error(d, e)
			}
		}
		if !store.Same(b.s, was) || b.s.Depth() != 1 {
			t.Error("something is done", b.s.Depth())
		}
		b.look()
	}
}

// An owner's are told by Val, in whichever order they were made, beside other owners'.
func TestP11_2Of(t *testing.T) {
	for _, vals := range [][]byte{{}, {0}, {15}, {3, 2, 1}, {0, 15, 7}, {15, 14, 13, 12, 11, 10, 9, 8, 7, 6, 5, 4, 3, 2, 1, 0}, {8, 0, 15, 4, 12, 2, 6}} {
		b := with(t, 16)
		for i, val := range vals {
			b.set(api.Delegation{Owner: 46, Val: val, Shares: n(uint64(i + 1)), Index: list{of(byte(i%8), uint64(9+i))}})
			b.set(api.Delegation{Owner: 47, Val: 15 - val, Shares: n(uint64(100 + i))})
			b.set(api.Delegation{Owner: 45, Val: byte(i), Shares: n(1)})
			b.set(api.Delegation{Owner: val, Val: val, Shares: n(1)})
			b.look()
		}
		var got []byte
		for _, d := range pool.Of(b.s, 46) {
			got = append(got, d.Val)
		}
		slices.Sort(vals)
		if !slices.Equal(got, vals) || len(pool.Of(b.s, 48)) != 0 {
			t.Error(got, vals)
		}
	}
}

// As many as there may be, made from the last one on: each has a place of its own, and all stand by Owner, then by Val.
func TestP11_2All(t *testing.T) {
	b := with(t, 16)
	for i := range 200 * 16 {
		k := 200*16 - 1 - i
		b.set(api.Delegation{Owner: byte(k / 16), Val: byte(k % 16), Shares: n(uint64(k + 1)), Index: rightLists()[k%9]})
	}
	l := pool.All(b.s)
	if len(l) != 200*16 {
		t.Fatal(len(l))
	}
	for i, d := range l {
		if int(d.Owner)*16+int(d.Val) != i || d.Shares != n(uint64(i+1)) {
			t.Fatal(i, d)
		}
	}
	b.look()
	for i := range 200 {
		b.set(api.Delegation{Owner: byte(i), Val: byte(i % 16)})
	}
	b.look()
}

// A delegation is its own: a validator that is set anew has the same ones, and the other way round.
func TestP11Apart(t *testing.T) {
	b := begun(t)
	for _, v := range validators() {
		v.Id = 4
		b.setVal(v)
		b.set(api.Delegation{Owner: 2, Val: 4, Shares: api.Num{0, v.Tokens[0], 1}, Index: v.Earned})
	}
	b.look()
	b.add(2, 5)
	b.set(api.Delegation{Owner: 2, Val: 5, Shares: n(1)})
	b.look()
}

// What is done in a part that is rolled back isn't done.
func TestP11Rollback(t *testing.T) {
	b := begun(t)
	was := b.s.Copy()
	b.s.Begin()
	b.add(1, 1)
	b.setVal(api.Validator{Id: 2, Earned: full(n(1))})
	b.setVal(api.Validator{Id: 5, Jailed: true})
	b.set(api.Delegation{Owner: 9, Val: 1})
	b.set(api.Delegation{Owner: 9, Val: 5, Shares: n(1)})
	b.set(api.Delegation{Owner: 2, Val: 4, Shares: n(9)})
	b.look()
	b.s.Rollback()
	if !store.Same(b.s, was) {
		t.Error("it isn't as it was")
	}
	c := begun(t)
	c.s = b.s
	c.look()
}

func TestNil(t *testing.T) {
	for x := range 256 {
		b := byte(x)
		for _, rate := range []uint16{0, 10000, 10001, 1<<16 - 1} {
			if id, e := pool.Add(nil, b, rate); id != 0 || e != api.ErrArg {
				t.Error(x, id, e)
			}
		}
		if v, ok := pool.Val(nil, b); ok || !sameVal(v, api.Validator{}) || v.Index != nil || v.Earned != nil {
			t.Error(v, ok)
		}
		for _, val := range []byte{0, 1, 15, 16, 255, b} {
			if d, ok := pool.Get(nil, b, val); ok || !sameDel(d, api.Delegation{}) || d.Index != nil {
				t.Error(d, ok)
			}
			for _, shares := range []api.Num{{}, most} {
				if e := pool.Set(nil, api.Delegation{Owner: b, Val: val, Shares: shares}); e != api.ErrArg {
					t.Error(x, val, e)
				}
			}
		}
		if l := pool.Of(nil, b); len(l) != 0 {
			t.Error(l)
		}
	}
	for _, v := range append(validators(), wrongValidators()...) {
		for _, id := range []byte{0, 16, 255} {
			v.Id = id
			if e := pool.SetVal(nil, v); e != api.ErrArg {
				t.Error(v, e)
			}
		}
	}
	if len(pool.Vals(nil)) != 0 || len(pool.All(nil)) != 0 {
		t.Error("of a nil store there is something")
	}
}

// Other layers' keys in the same store, the bank's and the accounts' among them, are neither told nor touched.
func TestOthers(t *testing.T) {
	b := start(t)
	for _, key := range []string{"", "a", "p", "pool", "poolx", "person", "q", "\x00", "\x05\x06", "\xff"} {
		b.s.Set([]byte(key), []byte{7})
	}
	for addr := range byte(200) {
		if person.Ensure(b.s, addr) != api.OK || bank.Mint(b.s, addr, full(n(9))) != api.OK {
			t.Fatal(addr)
		}
	}
	kept := b.s.Copy()
	b.look()
	for i := range 17 {
		b.add(byte(i), 5)
		for owner := range 200 {
			b.set(api.Delegation{Owner: byte(owner), Val: byte(i), Shares: n(uint64(owner))})
		}
	}
	b.look()
	for _, key := range kept.Keys(nil) {
		want, _ := kept.Get(key)
		if v, ok := b.s.Get(key); !ok || !slices.Equal(v, want) {
			t.Errorf("%q: %v %v", key, v, ok)
		}
	}
	if len(person.All(b.s)) != 200 || len(bank.All(b.s)) != 200 || b.s.Len() != kept.Len()+16+16*199 {
		t.Error(b.s.Len())
	}
}

// Stores have validators and delegations of their own, and a copy's are alike; alike ones make alike stores, whichever way they came.
func TestStores(t *testing.T) {
	a, b := begun(t), start(t)
	b.look()
	c := begun(t)
	if !store.Same(a.s, c.s) {
		t.Error("not alike")
	}
	c.s = a.s.Copy()
	for _, x := range []*both{c, a} {
		x.add(1, 1)
		x.setVal(api.Validator{Id: 0, Owner: 5})
		if x == a {
			x.set(api.Delegation{Owner: 7, Val: 3, Shares: n(1)})
		}
		x.set(api.Delegation{Owner: 9, Val: 1})
		x.set(api.Delegation{Owner: 7, Val: 3, Shares: n(6)})
		a.look()
		c.look()
	}
	if !store.Same(a.s, c.s) {
		t.Error("not alike behind deeds that come to the same")
	}
}

// Asking does nothing.
func TestAsking(t *testing.T) {
	b := begun(t)
	was := b.s.Copy()
	b.s.Begin()
	b.look()
	if !store.Same(b.s, was) || b.s.Depth() != 1 {
		t.Error("something is done")
	}
}

// P1: whatever others have laid where validators and delegations are kept, each call ends, and none panics.
func TestP1AnyStore(t *testing.T) {
	r := rand.New(rand.NewPCG(11, 2))
	for range 300 {
		b := begun(t)
		for _, key := range b.s.Keys(nil) {
			value, _ := b.s.Get(key)
			switch r.IntN(5) {
			case 0:
				b.s.Set(key, value[:r.IntN(len(value)+1)])
			case 1:
				b.s.Set(key[:r.IntN(len(key)+1)], value)
			case 2:
				b.s.Set(append(key, byte(r.IntN(3))), value)
			case 3:
				value[r.IntN(len(value))] = byte(r.Uint32())
				b.s.Set(key, value)
			}
		}
		for range 30 {
			owner, val := byte(r.IntN(12)), byte(r.IntN(18))
			pool.Add(b.s, owner, 1)
			pool.Vals(b.s)
			pool.Val(b.s, val)
			pool.SetVal(b.s, api.Validator{Id: val})
			pool.Get(b.s, owner, val)
			pool.Set(b.s, api.Delegation{Owner: owner, Val: val, Shares: n(1)})
			pool.Of(b.s, owner)
			pool.All(b.s)
		}
	}
}

// Any deeds, and all that there is behind each of them.
func TestP11Any(t *testing.T) {
	r := rand.New(rand.NewPCG(11, 1))
	seen := map[api.Errno]int{}
	vals := append(slices.Repeat(validators(), 5), wrongValidators()...)
	lists := append(slices.Repeat(rightLists(), 12), wrongLists()...)
	for range 60 {
		b := start(t)
		for range 80 {
			owner, val := byte(r.IntN(9)), byte(r.IntN(18))
			switch r.IntN(7) {
			case 0, 1:
				seen[b.add(byte(r.IntN(210)), uint16(r.IntN(10100)))]++
			case 2, 3:
				v := vals[r.IntN(len(vals))]
				v.Id = val
				seen[b.setVal(v)]++
			default:
				if r.IntN(30) == 0 {
					owner += 195
				}
				seen[b.set(api.Delegation{Owner: owner, Val: val, Shares: nums()[r.IntN(len(nums()))], Index: lists[r.IntN(len(lists))]})]++
			}
			b.lookVals()
			b.lookAt(owner, val)
			b.are("All", pool.All(b.s), func(pair) bool { return true })
			b.are("Of", pool.Of(b.s, owner), func(k pair) bool { return k.owner == owner })
		}
		b.look()
	}
	for _, e := range []api.Errno{api.OK, api.ErrArg, api.ErrNone, api.ErrFull} {
		if seen[e] < 10 {
			t.Error("too few of", e, seen)
		}
	}
}
