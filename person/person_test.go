package person_test

import (
	"fmt"
	"math/big"
	"math/rand/v2"
	"slices"
	"strings"
	"testing"

	"jointure/api"
	"jointure/bank"
	"jointure/coins"
	"jointure/person"
	"jointure/plan"
	"jointure/store"
)

const top = 1<<64 - 1

var most = api.Num{top, top, top, top}

type list = []api.Coin

func n(x uint64) api.Num { return api.Num{x} }

// of is a coin of x.
func of(denom byte, x uint64) api.Coin { return api.Coin{Denom: denom, N: api.Num{x}} }

// full is x of each denomination.
func full(x api.Num) list {
	var l list
	for d := range byte(api.MaxDenom) {
		l = append(l, api.Coin{Denom: d, N: x})
	}
	return l
}

// late is a plan that ends at 100.
func late(l ...api.Coin) api.Plan { return api.Plan{Kind: api.Late, End: 100, All: l} }

// steps is a plan by three periods, which are over at 10, at 15 and at 100.
func steps(kind byte) api.Plan {
	return api.Plan{Kind: kind, Start: 4, End: 100, All: list{of(0, 9), of(3, 300), of(7, 1)}, Periods: []api.Period{
		{Length: 6, Coins: list{of(0, 4)}}, {Length: 5, Coins: list{of(3, 300)}}, {Length: 85, Coins: list{of(0, 5), of(7, 1)}},
	}}
}

// most16 is a plan of as many periods as may be, of all that there can be.
func most16(kind byte) api.Plan {
	p := api.Plan{Kind: kind, End: api.MaxTime, All: full(api.Num{top - 15, top, top, top})}
	for range 16 {
		p.Periods = append(p.Periods, api.Period{Length: api.MaxTime / 16, Coins: full(api.Num{top, top, top, 1<<60 - 1})})
	}
	return p
}

// plans are some of each kind that may be.
func plans() []api.Plan {
	return []api.Plan{
		{}, {All: list{}, Periods: []api.Period{}},
		{Kind: api.Even, Start: 10, End: 20, All: list{of(0, 5), of(3, 100), of(7, 1)}},
		{Kind: api.Even, Start: api.MaxTime - 1, End: api.MaxTime, All: full(most), Periods: []api.Period{}},
		late(of(0, 5)), late(of(1, 5), of(6, 256)), {Kind: api.Late, All: full(n(1))},
		{Kind: api.Never, All: list{of(0, 5)}}, {Kind: api.Never, All: full(most)},
		steps(api.Steps), most16(api.Steps), steps(api.Revoke), most16(api.Revoke),
	}
}

// wrongPlans are some that may not be.
func wrongPlans() []api.Plan {
	some := list{of(0, 5)}
	early, zero, twice := steps(api.Revoke), steps(api.Steps), late(of(0, 5), of(0, 5))
	early.End--
	zero.Periods[1].Coins = nil
	long := most16(api.Revoke)
	long.Periods = append(long.Periods, long.Periods[0])
	return []api.Plan{
		{Start: 1}, {End: 1}, {All: some}, {Periods: make([]api.Period, 1)}, {Kind: 6, All: some, End: 9}, {Kind: 255},
		{Kind: api.Even, All: some}, {Kind: api.Even, End: 9}, {Kind: api.Late}, {Kind: api.Late, Start: 1, End: 9, All: some}, {Kind: api.Late, End: api.MaxTime + 1, All: some},
		{Kind: api.Never}, {Kind: api.Never, End: 1, All: some}, {Kind: api.Steps, All: some}, {Kind: api.Revoke}, {Kind: api.Revoke, End: 9, All: some},
		late(of(8, 1)), late(of(0, 0)), late(of(1, 1), of(0, 1)), early, zero, twice, long,
	}
}

// clonePlan is a plan that shares nothing with p, and has room behind its lists.
func clonePlan(p api.Plan) api.Plan {
	p.All = append(slices.Clone(p.All), of(5, 55))[:len(p.All)]
	periods := p.Periods
	p.Periods = nil
	for _, q := range append(periods, api.Period{}) {
		p.Periods = append(p.Periods, api.Period{Length: q.Length, Coins: append(slices.Clone(q.Coins), of(5, 55))[:len(q.Coins)]})
	}
	p.Periods = p.Periods[:len(periods)]
	return p
}

func clone(a api.Account) api.Account {
	a.Plan = clonePlan(a.Plan)
	return a
}

// paint writes over a list, and over the room behind it.
func paint(l list) {
	for i := range l[:cap(l)] {
		l[:cap(l)][i] = of(6, 66)
	}
}

// scribble writes over all lists of an account.
func scribble(a api.Account) {
	paint(a.Plan.All)
	l := a.Plan.Periods[:cap(a.Plan.Periods)]
	for i := range l {
		paint(l[i].Coins)
		l[i] = api.Period{Length: 77}
	}
}

// same is whether two accounts are alike, whether their lists of nothing are nil or not.
func same(a, b api.Account) bool {
	return a.Addr == b.Addr && a.Seq == b.Seq && a.Pay == b.Pay && a.Funder == b.Funder && a.Hold == b.Hold && plan.Same(a.Plan, b.Plan)
}

// mayBe is what P10.1 says of an account.
func mayBe(a api.Account) bool {
	if a.Addr > 199 || a.Pay > 199 || a.Funder > 199 || !plan.Right(a.Plan) {
		return false
	}
	return a.Plan.Kind != api.Revoke && a.Funder == 0 || a.Plan.Kind == api.Revoke && a.Funder != a.Addr
}

// accounts are some of those that may be: each field with its edges, each plan.
func accounts() []api.Account {
	l := []api.Account{
		{}, {Addr: 1}, {Addr: 199}, {Pay: 1}, {Pay: 199}, {Addr: 199, Pay: 199}, {Addr: 7, Pay: 7},
		{Addr: 3, Seq: 1}, {Addr: 3, Seq: 256}, {Addr: 3, Seq: 0x0102030405060708}, {Addr: 3, Seq: top},
		{Addr: 3, Hold: api.Hold{Kept: n(1)}}, {Addr: 3, Hold: api.Hold{Free: n(1)}}, {Addr: 3, Hold: api.Hold{Kept: most, Free: n(256)}}, {Addr: 3, Hold: api.Hold{Kept: n(5), Free: most}},
		{Addr: 0, Funder: 1, Plan: steps(api.Revoke)}, {Addr: 0, Funder: 199, Plan: steps(api.Revoke)}, {Addr: 1, Funder: 0, Plan: steps(api.Revoke)},
		{Addr: 199, Funder: 198, Plan: steps(api.Revoke)}, {Addr: 198, Funder: 199, Pay: 199, Plan: most16(api.Revoke)}, {Addr: 5, Funder: 0, Pay: 5, Plan: most16(api.Revoke)},
	}
	for i, p := range plans() {
		a := api.Account{Addr: byte(20 + i), Seq: uint64(7 * i), Pay: byte(60 + i), Plan: p, Hold: api.Hold{Kept: n(uint64(i)), Free: n(uint64(300 + i))}}
		if p.Kind == api.Revoke {
			a.Funder = byte(100 + i)
		}
		l = append(l, a)
	}
	return l
}

// wrong are those that may not be.
func wrong() []api.Account {
	l := []api.Account{
		{Addr: 200}, {Addr: 204}, {Addr: 205}, {Addr: 255}, {Pay: 200}, {Pay: 255}, {Addr: 200, Pay: 200}, {Addr: 7, Pay: 202},
		{Funder: 1}, {Addr: 1, Funder: 1}, {Addr: 1, Funder: 2}, {Funder: 199}, {Funder: 200}, {Addr: 3, Funder: 255},
		{Addr: 1, Funder: 1, Plan: steps(api.Revoke)}, {Addr: 0, Funder: 0, Plan: steps(api.Revoke)}, {Addr: 199, Funder: 199, Plan: most16(api.Revoke)},
		{Addr: 1, Funder: 200, Plan: steps(api.Revoke)}, {Addr: 1, Funder: 255, Plan: steps(api.Revoke)}, {Addr: 200, Funder: 1, Plan: steps(api.Revoke)}, {Addr: 1, Pay: 200, Funder: 2, Plan: steps(api.Revoke)},
	}
	for _, p := range plans() {
		l = append(l, api.Account{Addr: 200, Plan: p}, api.Account{Addr: 9, Pay: 200, Plan: p}, api.Account{Addr: 9, Funder: 9, Plan: p}, api.Account{Addr: 9, Funder: 200, Plan: p})
		if p.Kind != api.Revoke {
			l = append(l, api.Account{Addr: 9, Funder: 1, Plan: p}, api.Account{Addr: 0, Funder: 199, Plan: p})
		}
	}
	for _, p := range wrongPlans() {
		l = append(l, api.Account{Addr: 9, Plan: p}, api.Account{Addr: 9, Funder: 8, Plan: p}, api.Account{Addr: 0, Plan: p})
	}
	return l
}

// A both is a store with accounts, and what P10.1 says that they are.
type both struct {
	t     *testing.T
	s     *store.Store
	is    map[byte]api.Account
	steps []string
}

func start(t *testing.T) *both { return &both{t: t, s: store.New(), is: map[byte]api.Account{}} }

// wrong tells a fault, and which steps went ahead of it.
func (b *both) wrong(what string, more ...any) {
	b.t.Helper()
	b.t.Fatalf("behind %s: %s %v", strings.Join(b.steps, ", "), what, more)
}

// did lends a deed its account, with room behind its lists, holds its answer against what it should be, and writes over all that was lent.
func (b *both) did(what string, deed func(*store.Store, api.Account) api.Errno, a api.Account, want api.Errno) api.Errno {
	b.t.Helper()
	b.steps = append(b.steps, fmt.Sprint(what, " ", a.Addr))
	lent := clone(a)
	if e := deed(b.s, lent); e != want {
		b.wrong("it answers", e, "want", want)
	}
	if !same(lent, a) {
		b.wrong("written into what was handed in", lent)
	}
	scribble(lent)
	return want
}

func (b *both) create(a api.Account) api.Errno {
	b.t.Helper()
	e := api.OK
	if _, there := b.is[a.Addr]; !mayBe(a) {
		e = api.ErrArg
	} else if there {
		e = api.ErrThere
	} else {
		b.is[a.Addr] = clone(a)
	}
	return b.did("New", person.New, a, e)
}

func (b *both) put(a api.Account) api.Errno {
	b.t.Helper()
	e := api.OK
	if _, there := b.is[a.Addr]; !mayBe(a) {
		e = api.ErrArg
	} else if !there {
		e = api.ErrNone
	} else {
		b.is[a.Addr] = clone(a)
	}
	return b.did("Put", person.Put, a, e)
}

func (b *both) ensure(addr byte) api.Errno {
	b.t.Helper()
	e := api.OK
	if _, there := b.is[addr]; addr > 199 {
		e = api.ErrArg
	} else if !there {
		b.is[addr] = api.Account{Addr: addr, Pay: addr}
	}
	return b.did("Ensure", func(s *store.Store, a api.Account) api.Errno { return person.Ensure(s, a.Addr) }, api.Account{Addr: addr}, e)
}

// lookAt holds what Get answers against what is there, and writes over it.
func (b *both) lookAt(addr byte) {
	b.t.Helper()
	want, there := b.is[addr]
	a, ok := person.Get(b.s, addr)
	if ok != there || !same(a, want) {
		b.wrong("Get", addr, ok, a, "want", want)
	}
	scribble(a)
}

// look holds what All answers against all that there are.
func (b *both) look() {
	b.t.Helper()
	all := person.All(b.s)
	if len(all) != len(b.is) {
		b.wrong("All", len(all), "want", len(b.is))
	}
	for addr := range 256 {
		want, there := b.is[byte(addr)]
		if !there {
			continue
		}
		if !same(all[0], want) {
			b.wrong("All", addr, all[0], "want", want)
		}
		scribble(all[0]) // none of those behind it may change
		all = all[1:]
	}
}

// lookEverywhere looks at all, and at each address, and at all that are none.
func (b *both) lookEverywhere() {
	b.t.Helper()
	b.look()
	for addr := range 256 {
		b.lookAt(byte(addr))
	}
	b.look()
}

// begun is a both with some accounts, of three kinds of plans.
func begun(t *testing.T) *both {
	b := start(t)
	for _, a := range []api.Account{
		{Addr: 7, Seq: 9, Pay: 1, Plan: steps(api.Revoke), Funder: 3, Hold: api.Hold{Kept: n(4), Free: n(2)}},
		{Addr: 199, Seq: top, Plan: late(of(0, 5)), Pay: 7}, {Addr: 0, Pay: 199, Plan: most16(api.Steps)}, {Addr: 3, Pay: 3},
	} {
		if e := b.create(a); e != api.OK {
			b.wrong("New", e)
		}
	}
	return b
}

func TestP10_1Right(t *testing.T) {
	for _, a := range accounts() {
		if !person.Right(clone(a)) || !mayBe(a) {
			t.Error(a)
		}
	}
	for _, a := range wrong() {
		if person.Right(clone(a)) || mayBe(a) {
			t.Error(a)
		}
	}
}

// Each Addr, Pay and Funder, with a plan of each kind.
func TestP10_1RightEach(t *testing.T) {
	for x := range 256 {
		v := byte(x)
		for _, p := range plans() {
			free := api.Account{Addr: 5, Pay: 6, Plan: p}
			if p.Kind == api.Revoke {
				free.Funder = 199
			}
			a, b, c, d := free, free, free, free
			a.Addr, b.Pay, c.Funder, d.Addr, d.Funder = v, v, v, v, v
			for i, want := range []bool{
				v < 200 && (p.Kind != api.Revoke || v != 199), v < 200, p.Kind != api.Revoke && v == 0 || p.Kind == api.Revoke && v < 200 && v != 5, p.Kind != api.Revoke && v == 0,
			} {
				if got := []api.Account{a, b, c, d}[i]; person.Right(got) != want {
					t.Error(got, !want)
				}
			}
		}
	}
}

// What isn't Right isn't written into.
func TestP10_1RightLent(t *testing.T) {
	for _, a := range append(accounts(), wrong()...) {
		lent := clone(a)
		person.Right(lent)
		if !same(lent, a) {
			t.Error(lent, a)
		}
	}
}

// One that may be is there with all that it has, as it came, by New and by Put.
func TestP10_1AsItCame(t *testing.T) {
	for _, a := range accounts() {
		b := start(t)
		if e := b.create(a); e != api.OK {
			t.Error(a, e)
		}
		b.lookEverywhere()
		if x, ok := person.Get(b.s, a.Addr); !ok || x.Seq != a.Seq || x.Pay != a.Pay || x.Hold != a.Hold || x.Funder != a.Funder || x.Plan.Kind != a.Plan.Kind || len(x.Plan.Periods) != len(a.Plan.Periods) {
			t.Error(x, ok)
		}
		for _, c := range accounts() {
			c.Addr = a.Addr
			want := api.OK
			if c.Plan.Kind == api.Revoke && c.Funder == c.Addr {
				want = api.ErrArg
			}
			if e := b.put(c); e != want {
				t.Error(c, e)
			}
			b.lookAt(a.Addr)
		}
		b.lookEverywhere()
	}
}

func TestP10_1New(t *testing.T) {
	b := begun(t)
	b.lookEverywhere()
	for _, c := range []struct {
		a api.Account
		e api.Errno
	}{
		{api.Account{Addr: 8, Seq: 1, Pay: 7}, api.OK}, {api.Account{Addr: 1, Funder: 7, Plan: steps(api.Revoke)}, api.OK},
		{api.Account{Addr: 7}, api.ErrThere}, {api.Account{Addr: 0}, api.ErrThere}, {api.Account{Addr: 199, Pay: 5, Plan: late(of(1, 1))}, api.ErrThere}, {api.Account{Addr: 3, Pay: 3}, api.ErrThere},
		{api.Account{Addr: 8, Seq: 1, Pay: 7}, api.ErrThere},
		// that isn't Right is ahead of that there is one
		{api.Account{Addr: 7, Pay: 200}, api.ErrArg}, {api.Account{Addr: 7, Funder: 1}, api.ErrArg}, {api.Account{Addr: 3, Funder: 3, Plan: steps(api.Revoke)}, api.ErrArg}, {api.Account{Addr: 0, Plan: api.Plan{Kind: 9}}, api.ErrArg},
		{api.Account{Addr: 200}, api.ErrArg}, {api.Account{Addr: 255}, api.ErrArg}, {api.Account{Addr: 9, Pay: 200}, api.ErrArg},
	} {
		if e := b.create(c.a); e != c.e {
			t.Error(c, e)
		}
		b.lookEverywhere()
	}
}

func TestP10_1Put(t *testing.T) {
	b := begun(t)
	for _, c := range []struct {
		a api.Account
		e api.Errno
	}{
		{api.Account{Addr: 7}, api.OK}, {api.Account{Addr: 0, Seq: 1, Pay: 2, Plan: steps(api.Revoke), Funder: 5, Hold: api.Hold{Kept: most, Free: most}}, api.OK},
		{api.Account{Addr: 3, Plan: most16(api.Steps)}, api.OK}, {api.Account{Addr: 3, Plan: late(of(4, 1))}, api.OK}, {api.Account{Addr: 3}, api.OK}, {api.Account{Addr: 3}, api.OK},
		{api.Account{Addr: 1}, api.ErrNone}, {api.Account{Addr: 198, Plan: steps(api.Steps)}, api.ErrNone}, {api.Account{Addr: 1, Funder: 7, Plan: steps(api.Revoke)}, api.ErrNone},
		// that isn't Right is ahead of that there is none
		{api.Account{Addr: 1, Pay: 200}, api.ErrArg}, {api.Account{Addr: 1, Funder: 1, Plan: steps(api.Revoke)}, api.ErrArg}, {api.Account{Addr: 9, Plan: api.Plan{Kind: 9}}, api.ErrArg},
		{api.Account{Addr: 200}, api.ErrArg}, {api.Account{Addr: 255, Pay: 255}, api.ErrArg},
		{api.Account{Addr: 7, Pay: 255}, api.ErrArg}, {api.Account{Addr: 7, Funder: 7}, api.ErrArg}, {api.Account{Addr: 0, Plan: steps(api.Revoke)}, api.ErrArg}, {api.Account{Addr: 199, Plan: late()}, api.ErrArg},
	} {
		if e := b.put(c.a); e != c.e {
			t.Error(c, e)
		}
		b.lookEverywhere()
	}
}

// Of each address: one that has none has just this one, one that has one keeps it, one that is none is ErrArg.
func TestP10_1Ensure(t *testing.T) {
	b := begun(t)
	for addr := range 256 {
		for range 2 {
			want := api.OK
			if addr >= 200 {
				want = api.ErrArg
			}
			if e := b.ensure(byte(addr)); e != want {
				t.Error(addr, e)
			}
			b.lookAt(byte(addr))
			b.look()
		}
	}
	b.lookEverywhere()
	if a, ok := person.Get(b.s, 100); !ok || !same(a, api.Account{Addr: 100, Pay: 100}) {
		t.Error(a, ok)
	}
	if a, ok := person.Get(b.s, 7); !ok || a.Seq != 9 || a.Pay != 1 || a.Funder != 3 || a.Hold != (api.Hold{Kept: n(4), Free: n(2)}) || !plan.Same(a.Plan, steps(api.Revoke)) {
		t.Error(a, ok)
	}
	if e := b.put(api.Account{Addr: 100, Seq: 5}); e != api.OK {
		t.Error(e)
	}
	b.ensure(100)
	b.lookEverywhere()
}

// All that aren't Right, whether there is one of that Addr or none: nothing is done.
func TestP10_1NothingDone(t *testing.T) {
	for _, b := range []*both{start(t), begun(t)} {
		was := b.s.Copy()
		b.s.Begin()
		for _, a := range wrong() {
			for _, addr := range []byte{a.Addr, 7, 3, 0} {
				c := a
				c.Addr = addr
				if !mayBe(c) && (b.create(c) != api.ErrArg || b.put(c) != api.ErrArg) {
					t.Error(c)
				}
			}
		}
		for _, a := range b.is {
			a.Seq, a.Pay = 77, 77
			b.create(a)
		}
		for addr := range 256 {
			if _, there := b.is[byte(addr)]; !there {
				b.put(api.Account{Addr: byte(addr)})
			}
		}
		b.ensure(200)
		b.ensure(255)
		if !store.Same(b.s, was) || b.s.Depth() != 1 {
			t.Error("something is done", b.s.Depth())
		}
		b.lookEverywhere()
	}
}

// All are told rising, in whichever order they were made.
func TestP10_1All(t *testing.T) {
	for _, order := range [][]byte{{}, {0}, {199}, {3, 2, 1}, {0, 199, 7}, {199, 0, 46, 112, 100, 9, 10, 2, 128, 127}} {
		b := start(t)
		b.lookEverywhere()
		for i, addr := range order {
			b.create(api.Account{Addr: addr, Seq: uint64(i), Pay: 5, Plan: plans()[i]})
			b.look()
		}
		b.lookEverywhere()
		var got []byte
		for _, a := range person.All(b.s) {
			got = append(got, a.Addr)
		}
		slices.Sort(order)
		if !slices.Equal(got, order) {
			t.Error(got, order)
		}
	}
}

// Each address has a place of its own.
func TestP10_1Each(t *testing.T) {
	b := start(t)
	for i := range 200 {
		addr := byte(199 - i)
		a := api.Account{Addr: addr, Seq: uint64(1000 + i), Pay: byte(i), Plan: plans()[i%len(plans())], Hold: api.Hold{Kept: n(uint64(i)), Free: n(uint64(2 * i))}}
		if a.Plan.Kind == api.Revoke {
			a.Funder = (addr + 1) % 200
		}
		if e := b.create(a); e != api.OK {
			t.Error(a, e)
		}
	}
	b.lookEverywhere()
	if l := person.All(b.s); len(l) != 200 {
		t.Error(len(l))
	}
	for i := range 200 {
		b.put(api.Account{Addr: byte(i), Pay: byte(199 - i)})
	}
	b.lookEverywhere()
}

// What is done in a part that is rolled back isn't done.
func TestP10_1Rollback(t *testing.T) {
	b := begun(t)
	was := b.s.Copy()
	b.s.Begin()
	b.put(api.Account{Addr: 7, Seq: 1})
	b.create(api.Account{Addr: 8, Plan: steps(api.Steps)})
	b.ensure(9)
	b.ensure(3)
	b.lookEverywhere()
	b.s.Rollback()
	if !store.Same(b.s, was) {
		t.Error("it isn't as it was")
	}
	c := begun(t)
	c.s = b.s
	c.lookEverywhere()
}

// What was answered shares nothing with what is kept, nor with another answer, and no two of its lists share.
func TestSharesNothing(t *testing.T) {
	for _, p := range plans() {
		s := store.New()
		a, b := api.Account{Addr: 9, Plan: p}, api.Account{Addr: 10, Plan: p}
		if person.New(s, a) != api.OK || person.New(s, b) != api.OK {
			t.Fatal(p)
		}
		x, _ := person.Get(s, 9)
		paint(x.Plan.All)
		for i, q := range x.Plan.Periods {
			if !slices.Equal(q.Coins, p.Periods[i].Coins) {
				t.Fatal("lists of one answer share", x)
			}
			paint(q.Coins)
		}
		scribble(x)
		l := person.All(s)
		if len(l) != 2 || !same(l[0], a) || !same(l[1], b) {
			t.Fatal(l)
		}
		scribble(l[0])
		if y, _ := person.Get(s, 9); !same(l[1], b) || !same(y, a) {
			t.Error(y, l[1])
		}
	}
}

// give has the bank mint l to an address.
func give(t *testing.T, s *store.Store, addr byte, l list) {
	t.Helper()
	if e := bank.Mint(s, addr, l); e != api.OK {
		t.Fatal(e)
	}
}

// spends holds what may be spent against what it should be, twice, with the first answer written over.
func spends(t *testing.T, s *store.Store, addr byte, now uint64, want ...api.Coin) {
	t.Helper()
	was := s.Copy()
	for range 2 {
		l := person.Spendable(s, addr, now)
		if !slices.Equal(l, want) {
			t.Errorf("Spendable %d at %d: %v, not %v", addr, now, l, want)
		}
		paint(l)
	}
	if !store.Same(s, was) {
		t.Error("it did something")
	}
}

func TestExample(t *testing.T) {
	s := store.New()
	person.New(s, api.Account{Addr: 4, Plan: late(of(1, 5))})
	give(t, s, 4, list{of(1, 7)})
	for _, now := range []uint64{0, 1, 50, 99} {
		spends(t, s, 4, now, of(1, 2))
	}
	for _, now := range []uint64{100, 101, top} {
		spends(t, s, 4, now, of(1, 7))
	}
}

// A plan of each kind, ahead of its start, in it, at its end and behind it; the balance is 20 of 0, 2 of 1, 300 of 3 and 1 of 7.
func TestP10_2Kinds(t *testing.T) {
	has := list{of(0, 20), of(1, 2), of(3, 300), of(7, 1)}
	for _, c := range []struct {
		p    api.Plan
		now  []uint64
		want list
	}{
		{api.Plan{}, []uint64{0, 1, api.MaxTime, top}, has},
		{plans()[2], []uint64{0, 9, 10}, list{of(0, 15), of(1, 2), of(3, 200)}},
		{plans()[2], []uint64{11}, list{of(0, 15), of(1, 2), of(3, 210)}},
		{plans()[2], []uint64{13}, list{of(0, 16), of(1, 2), of(3, 230)}},
		{plans()[2], []uint64{19}, list{of(0, 19), of(1, 2), of(3, 290)}},
		{plans()[2], []uint64{20, 21, api.MaxTime + 1, top}, has},
		{late(of(0, 5), of(1, 1), of(3, 300)), []uint64{0, 1, 99}, list{of(0, 15), of(1, 1), of(7, 1)}},
		{late(of(0, 5), of(1, 1), of(3, 300)), []uint64{100, 101, 1 << 63, top}, has},
		{api.Plan{Kind: api.Late, All: full(n(1))}, []uint64{0, 1, top}, has},
		{api.Plan{Kind: api.Never, All: full(n(2))}, []uint64{0, 100, api.MaxTime, api.MaxTime + 1, top}, list{of(0, 18), of(3, 298)}},
		{steps(api.Steps), []uint64{0, 3, 4, 9}, list{of(0, 11), of(1, 2)}},
		{steps(api.Steps), []uint64{10, 14}, list{of(0, 15), of(1, 2)}},
		{steps(api.Steps), []uint64{15, 16, 99}, list{of(0, 15), of(1, 2), of(3, 300)}},
		{steps(api.Steps), []uint64{100, 101, top}, has},
		{steps(api.Revoke), []uint64{0, 3, 4, 9}, list{of(0, 11), of(1, 2)}},
		{steps(api.Revoke), []uint64{10, 14}, list{of(0, 15), of(1, 2)}},
		{steps(api.Revoke), []uint64{15, 16, 99}, list{of(0, 15), of(1, 2), of(3, 300)}},
		{steps(api.Revoke), []uint64{100, 101, top}, has},
	} {
		s := store.New()
		a := api.Account{Addr: 4, Plan: c.p}
		if c.p.Kind == api.Revoke {
			a.Funder = 9
		}
		if e := person.New(s, a); e != api.OK {
			t.Fatal(e)
		}
		give(t, s, 4, has)
		give(t, s, 9, list{of(0, 1000), of(5, 1000)})
		for _, now := range c.now {
			spends(t, s, 4, now, c.want...)
		}
	}
}

// What is Kept is of Stake alone; what is Free is of nothing.
func TestP10_2Kept(t *testing.T) {
	for _, c := range []struct {
		hold api.Hold
		has  uint64
		want uint64 // of Stake; of 10 locked
	}{
		{api.Hold{}, 20, 10}, {api.Hold{Kept: n(1)}, 20, 11}, {api.Hold{Kept: n(4)}, 20, 14}, {api.Hold{Kept: n(9)}, 20, 19}, {api.Hold{Kept: n(10)}, 20, 20}, {api.Hold{Kept: n(11)}, 20, 20}, {api.Hold{Kept: most}, 20, 20},
		{api.Hold{Free: n(4)}, 20, 10}, {api.Hold{Free: most}, 20, 10}, {api.Hold{Kept: n(4), Free: n(9)}, 20, 14},
		{api.Hold{}, 10, 0}, {api.Hold{}, 9, 0}, {api.Hold{}, 11, 1}, {api.Hold{}, 1, 0}, {api.Hold{Kept: n(4)}, 6, 0}, {api.Hold{Kept: n(4)}, 5, 0}, {api.Hold{Kept: n(4)}, 7, 1}, {api.Hold{Kept: n(10)}, 1, 1}, {api.Hold{Kept: n(9)}, 1, 0},
	} {
		for _, now := range []uint64{0, 99, 100, top} {
			s := store.New()
			person.New(s, api.Account{Addr: 4, Plan: late(of(0, 10), of(1, 10), of(7, 10)), Hold: c.hold})
			give(t, s, 4, list{of(0, c.has), of(1, 15), of(2, 9), of(7, 10)})
			want := list{of(0, c.has), of(1, 15), of(2, 9), of(7, 10)}
			if now < 100 {
				want = append(coins.One(0, n(c.want)), of(1, 5), of(2, 9))
			}
			spends(t, s, 4, now, want...)
		}
	}
}

// With nothing of Stake locked, or with no plan at all, what is Kept changes nothing.
func TestP10_2KeptOfNothing(t *testing.T) {
	for _, p := range []api.Plan{{}, late(of(1, 3))} {
		s := store.New()
		person.New(s, api.Account{Addr: 4, Plan: p, Hold: api.Hold{Kept: n(100), Free: n(100)}})
		give(t, s, 4, list{of(0, 5), of(1, 3), of(2, 5)})
		if p.Kind == api.None {
			spends(t, s, 4, 0, of(0, 5), of(1, 3), of(2, 5))
		} else {
			spends(t, s, 4, 0, of(0, 5), of(2, 5))
		}
	}
}

// Less in the balance than is locked, of one denomination, of all; nothing in it.
func TestP10_2Less(t *testing.T) {
	s := store.New()
	person.New(s, api.Account{Addr: 4, Plan: api.Plan{Kind: api.Never, All: full(n(10))}})
	spends(t, s, 4, 0)
	give(t, s, 4, list{of(1, 9), of(2, 10), of(3, 11)})
	spends(t, s, 4, 0, of(3, 1))
	give(t, s, 4, list{of(0, 9), of(1, 1)})
	spends(t, s, 4, top, of(3, 1))
	give(t, s, 4, full(n(2)))
	spends(t, s, 4, 5, of(0, 1), of(1, 2), of(2, 2), of(3, 3))
	bank.Burn(s, 4, list{of(3, 13)})
	spends(t, s, 4, 5, of(0, 1), of(1, 2), of(2, 2))
	person.Put(s, api.Account{Addr: 4})
	spends(t, s, 4, 5, of(0, 11), of(1, 12), of(2, 12), of(4, 2), of(5, 2), of(6, 2), of(7, 2))
}

// As much as there can be.
func TestP10_2Most(t *testing.T) {
	s := store.New()
	person.New(s, api.Account{Addr: 4, Plan: api.Plan{Kind: api.Never, All: full(most)}, Hold: api.Hold{Kept: n(1)}})
	person.New(s, api.Account{Addr: 5, Plan: api.Plan{Kind: api.Even, Start: 0, End: 2, All: full(most)}})
	person.New(s, api.Account{Addr: 6, Plan: most16(api.Steps)})
	give(t, s, 4, full(most))
	spends(t, s, 4, top, of(0, 1))
	bank.Send(s, 4, 5, full(most))
	spends(t, s, 4, 0)
	spends(t, s, 5, 0)
	spends(t, s, 5, 1, full(api.Num{top, top, top, 1<<63 - 1})...)
	spends(t, s, 5, 2, full(most)...)
	bank.Send(s, 5, 6, full(most))
	spends(t, s, 6, 0, full(n(15))...)
	spends(t, s, 6, api.MaxTime/16, full(api.Num{14, 0, 0, 1 << 60})...)
	spends(t, s, 6, api.MaxTime, full(most)...)
}

// Of an address without an account it is the balance, whatever others have locked; of what is no address, nothing.
func TestP10_2NoAccount(t *testing.T) {
	s := store.New()
	person.New(s, api.Account{Addr: 4, Plan: api.Plan{Kind: api.Never, All: full(most)}, Hold: api.Hold{Kept: n(1)}})
	for addr := range byte(205) {
		if addr != 4 {
			give(t, s, addr, list{of(0, 1+uint64(addr)), of(addr%7+1, 9)})
		}
	}
	for addr := range 256 {
		for _, now := range []uint64{0, api.MaxTime, top} {
			if addr != 4 && addr < 205 {
				spends(t, s, byte(addr), now, of(0, 1+uint64(addr)), of(byte(addr%7+1), 9))
			} else {
				spends(t, s, byte(addr), now)
			}
		}
	}
	if _, there := person.Get(s, 9); there || len(person.All(s)) != 1 {
		t.Error("there is an account now")
	}
}

func TestNil(t *testing.T) {
	for _, a := range append(accounts(), wrong()...) {
		if person.New(nil, a) != api.ErrArg || person.Put(nil, a) != api.ErrArg {
			t.Error(a)
		}
	}
	for x := range 256 {
		if person.Ensure(nil, byte(x)) != api.ErrArg {
			t.Error(x)
		}
		if a, ok := person.Get(nil, byte(x)); ok || !same(a, api.Account{}) || a.Plan.All != nil || a.Plan.Periods != nil {
			t.Error(a, ok)
		}
		for _, now := range []uint64{0, 1, top} {
			if l := person.Spendable(nil, byte(x), now); len(l) != 0 {
				t.Error(l)
			}
		}
	}
	if l := person.All(nil); len(l) != 0 {
		t.Error(l)
	}
}

// Other layers' keys in the same store, the bank's among them, are neither told nor touched.
func TestOthers(t *testing.T) {
	b := start(t)
	others := []string{"", "a", "p", "persona", "person", "pool.", "q", "\x00", "\x05", "\xff"}
	for _, key := range others {
		b.s.Set([]byte(key), []byte{7})
	}
	give(t, b.s, 7, full(n(9)))
	kept := b.s.Copy()
	b.lookEverywhere()
	for _, a := range accounts() {
		b.create(a)
	}
	for addr := range 200 {
		b.ensure(byte(addr))
		b.put(api.Account{Addr: byte(addr), Pay: 3})
	}
	b.lookEverywhere()
	for _, key := range kept.Keys(nil) {
		want, _ := kept.Get(key)
		if v, ok := b.s.Get(key); !ok || !slices.Equal(v, want) {
			t.Errorf("%q: %v %v", key, v, ok)
		}
	}
	if l := bank.All(b.s); len(l) != 1 || b.s.Len() != kept.Len()+200 {
		t.Error(l, b.s.Len())
	}
}

// Stores have accounts of their own, and a copy's are alike; alike accounts make alike stores, whichever way they came.
func TestStores(t *testing.T) {
	a, b := begun(t), start(t)
	b.lookEverywhere()
	c := begun(t)
	if !store.Same(a.s, c.s) {
		t.Error("not alike")
	}
	c.s = a.s.Copy()
	c.put(api.Account{Addr: 7, Seq: 1})
	c.ensure(100)
	a.lookEverywhere()
	c.lookEverywhere()
	a.put(api.Account{Addr: 7, Seq: 1})
	a.ensure(100)
	if !store.Same(a.s, c.s) {
		t.Error("not alike behind the same deeds")
	}
}

// anyAccount is one of those above with any fields changed, in most cases still such as may be.
func anyAccount(r *rand.Rand) api.Account {
	l := accounts()
	a := l[r.IntN(len(l))]
	a.Addr, a.Pay, a.Seq = byte(r.IntN(12)), byte(r.IntN(200)), r.Uint64()
	if a.Plan.Kind == api.Revoke {
		a.Funder = byte(r.IntN(12))
	}
	a.Hold = api.Hold{Kept: n(r.Uint64N(30)), Free: api.Num{r.Uint64(), 0, r.Uint64(), 0}}
	if r.IntN(10) == 0 {
		w := wrong()
		return w[r.IntN(len(w))]
	}
	return a
}

// left is what may be spent by P10.2 and P7.2, by the library's own numbers.
func left(a api.Account, has list, now uint64) (l list) {
	whole := func(x api.Num) *big.Int {
		w := new(big.Int)
		for i := 3; i >= 0; i-- {
			w.Or(w.Lsh(w, 64), new(big.Int).SetUint64(x[i]))
		}
		return w
	}
	for _, c := range has {
		stays := whole(coins.Amount(plan.Locked(a.Plan, now), c.Denom))
		if c.Denom == 0 {
			stays.Sub(stays, whole(a.Hold.Kept))
		}
		may := whole(c.N)
		if stays.Sign() > 0 {
			may.Sub(may, stays)
		}
		if may.Sign() <= 0 {
			continue
		}
		for i := range c.N {
			c.N[i] = new(big.Int).And(new(big.Int).Rsh(may, uint(64*i)), new(big.Int).SetUint64(top)).Uint64()
		}
		l = append(l, c)
	}
	return l
}

// Any deeds, and what may be spent behind each of them.
func TestP10Any(t *testing.T) {
	r := rand.New(rand.NewPCG(10, 1))
	seen := map[api.Errno]int{}
	some := 0
	for range 100 {
		b := start(t)
		for range 60 {
			a := anyAccount(r)
			switch r.IntN(5) {
			case 0, 1:
				seen[b.create(a)]++
			case 2, 3:
				seen[b.put(a)]++
			default:
				seen[b.ensure(a.Addr)]++
			}
			addr := byte(r.IntN(12))
			bank.Mint(b.s, addr, list{of(byte(r.IntN(4)), 1+r.Uint64N(9)), of(4+byte(r.IntN(4)), 1+r.Uint64N(200))})
			now := []uint64{r.Uint64N(25), r.Uint64N(110), r.Uint64N(api.MaxTime), r.Uint64()}[r.IntN(4)]
			want := left(b.is[addr], bank.Coins(b.s, addr), now)
			spends(t, b.s, addr, now, want...)
			if len(want) < len(bank.Coins(b.s, addr)) {
				some++
			}
			b.lookAt(addr)
			b.lookAt(a.Addr)
			b.look()
		}
		b.lookEverywhere()
	}
	for _, e := range []api.Errno{api.OK, api.ErrArg, api.ErrThere, api.ErrNone} {
		if seen[e] < 200 {
			t.Error("hardly ever came to", e, seen[e])
		}
	}
	if some < 200 {
		t.Error("hardly ever was all of a denomination locked", some)
	}
}

// P1: of a store whose accounts others made only this is kept, that calls end.
func TestP1OtherStores(t *testing.T) {
	made := begun(t).s
	for _, key := range made.Keys(nil) {
		value, _ := made.Get(key)
		for size := range len(key) + 3 {
			for _, v := range [][]byte{nil, {0}, {255}, value[:len(value)/2], append(slices.Clone(value), 0), make([]byte, 30), slices.Repeat([]byte{255}, 60)} {
				s := made.Copy()
				s.Set(append(slices.Clone(key), 1, 255)[:size], v)
				for _, addr := range []byte{0, 1, 7, 46, 110, 199, 255} {
					person.Spendable(s, addr, 5)
					person.Get(s, addr)
					person.Put(s, api.Account{Addr: addr})
					person.Ensure(s, addr)
				}
				person.All(s)
			}
		}
	}
}
