package plan_test

import (
	"bytes"
	"encoding/binary"
	"math/rand/v2"
	"slices"
	"testing"

	"jointure/api"
	"jointure/codec"
	"jointure/plan"
)

// laid is what P6.4 says that a plan is as bytes, by the library's own means.
func laid(p api.Plan) []byte {
	b := binary.BigEndian.AppendUint64([]byte{p.Kind}, p.Start)
	b = laidCoins(binary.BigEndian.AppendUint64(b, p.End), p.All)
	b = append(b, byte(len(p.Periods)))
	for _, q := range p.Periods {
		b = laidCoins(binary.BigEndian.AppendUint64(b, q.Length), q.Coins)
	}
	return b
}

func laidCoins(b []byte, l list) []byte {
	b = append(b, byte(len(l)))
	for _, c := range l {
		n := whole(c.N).Bytes()
		b = append(append(b, c.Denom, byte(len(n))), n...)
	}
	return b
}

// A scan reads bytes as laid lays them.
type scan struct {
	b   []byte
	bad bool
}

func (s *scan) next(n int) []byte {
	if s.bad || n > len(s.b) {
		s.bad = true
		return make([]byte, n)
	}
	p := s.b[:n]
	s.b = s.b[n:]
	return p
}

func (s *scan) long() uint64 { return binary.BigEndian.Uint64(s.next(8)) }

func (s *scan) coins() (l list) {
	for range s.next(1)[0] {
		denom := s.next(1)[0]
		p := s.next(int(s.next(1)[0]))
		if s.bad || len(p) > 32 || len(p) > 0 && p[0] == 0 {
			s.bad = true
			return nil
		}
		var all [32]byte
		copy(all[32-len(p):], p)
		c := api.Coin{Denom: denom}
		for i := range c.N {
			c.N[i] = binary.BigEndian.Uint64(all[24-8*i:])
		}
		l = append(l, c)
	}
	return l
}

// taken is what P6.4 says that bytes begin with, and how many it has; false: no plan that may be.
func taken(b []byte) (api.Plan, int, bool) {
	s := &scan{b: b}
	p := api.Plan{Kind: s.next(1)[0]}
	p.Start, p.End, p.All = s.long(), s.long(), s.coins()
	for range s.next(1)[0] {
		var q api.Period
		q.Length, q.Coins = s.long(), s.coins()
		p.Periods = append(p.Periods, q)
	}
	if s.bad || !mayBe(p) {
		return api.Plan{}, 0, false
	}
	return p, len(b) - len(s.b), true
}

// holds is whether Take does with bytes as taken says, and so what it answers.
func holds(t *testing.T, b []byte) bool {
	t.Helper()
	want, size, ok := taken(b)
	r := codec.Read(b)
	p := plan.Take(r)
	if !alike(p, want) || r.Bad() == ok {
		t.Fatalf("of %x: %v, not %v; a fault: %v", b, p, want, r.Bad())
	}
	if ok && r.Left() != len(b)-size || !ok && (r.Left() != 0 || r.End()) {
		t.Fatalf("of %x: %d left", b, r.Left())
	}
	return ok
}

func TestP6_4Lay(t *testing.T) {
	for _, p := range plans() {
		w := &codec.Writer{}
		plan.Lay(w, p)
		if b := w.Done(); !bytes.Equal(b, laid(p)) {
			t.Errorf("%v: %x, not %x", p, b, laid(p))
		}
		plan.Lay(w.Byte(7), p)
		if b := w.Byte(8).Done(); !bytes.Equal(b, slices.Concat(laid(p), []byte{7}, laid(p), []byte{8})) {
			t.Errorf("%v: one behind the other: %x", p, b)
		}
	}
	w := &codec.Writer{}
	plan.Lay(w, steps(api.Revoke, 3, api.Period{Length: 2, Coins: list{of(0, 4)}}, api.Period{Length: 5, Coins: list{of(1, 256)}}))
	if b := w.Done(); string(b) != "\x05\x00\x00\x00\x00\x00\x00\x00\x03\x00\x00\x00\x00\x00\x00\x00\x0a\x02\x00\x01\x04\x01\x02\x01\x00\x02"+
		"\x00\x00\x00\x00\x00\x00\x00\x02\x01\x00\x01\x04\x00\x00\x00\x00\x00\x00\x00\x05\x01\x01\x02\x01\x00" {
		t.Errorf("%x", b)
	}
}

func TestP6_4Take(t *testing.T) {
	for _, p := range plans() {
		for _, behind := range [][]byte{nil, {0}, {1, 2, 3}, laid(p)} {
			b := append(laid(p), behind...)
			r := codec.Read(b)
			if q := plan.Take(r); !alike(q, p) || r.Bad() || r.Left() != len(behind) {
				t.Errorf("%v, not %v; %d left", q, p, r.Left())
			}
			holds(t, b)
		}
	}
	// One behind the other, from where the last one ended.
	w := &codec.Writer{}
	for _, p := range plans() {
		plan.Lay(w, p)
	}
	r := codec.Read(w.Done())
	for _, p := range plans() {
		if q := plan.Take(r); !alike(q, p) || r.Bad() {
			t.Fatal(q, p)
		}
	}
	if !r.End() {
		t.Error(r.Left())
	}
}

func TestP6_4TakeShort(t *testing.T) {
	for _, p := range plans() {
		b := laid(p)
		for n := range b {
			if holds(t, b[:n]) {
				t.Errorf("%x: no fault", b[:n])
			}
		}
	}
}

// others are values for a byte of so many: all of them, or some, where there are so many bytes that it would take too long.
func others(was byte, size int) (l []byte) {
	l = []byte{0, was + 1, was ^ 128}
	if size < 1000 {
		l = append(l, 1, 2, 5, 16, 17, 32, 33, 255, was-1)
	}
	if size < 100 {
		for v := range 256 {
			l = append(l, byte(v))
		}
	}
	return l
}

func TestP6_4TakeChanged(t *testing.T) {
	well := 0
	for _, p := range plans() {
		b := laid(p)
		for i, was := range b {
			for _, v := range others(was, len(b)) {
				b[i] = v
				if holds(t, b) && v != was {
					well++
				}
			}
			b[i] = was
		}
	}
	if well < 100 {
		t.Error("nearly no change left a plan that may be:", well)
	}
}

// What isn't Right is a fault, also where each part of it is read well.
func TestP6_4TakeWrong(t *testing.T) {
	for _, p := range plans() {
		for _, q := range changes(p) {
			if holds(t, laid(q)) != mayBe(q) && len(q.All) < 256 {
				t.Error(q)
			}
		}
	}
	for _, s := range []string{
		"\x06\x00\x00\x00\x00\x00\x00\x00\x00\x00\x00\x00\x00\x00\x00\x00\x07\x01\x00\x01\x05\x00", // no kind
		"\x02\x00\x00\x00\x00\x00\x00\x00\x01\x00\x00\x00\x00\x00\x00\x00\x07\x01\x00\x01\x05\x00", // Late, with a Start
		"\x02\x00\x00\x00\x00\x00\x00\x00\x00\x00\x00\x01\x00\x00\x00\x00\x01\x01\x00\x01\x05\x00", // Late, behind MaxTime
		"\x02\x00\x00\x00\x00\x00\x00\x00\x00\x00\x00\x00\x00\x00\x00\x00\x07\x00\x00",             // Late, of nothing
		"\x00\x00\x00\x00\x00\x00\x00\x00\x00\x00\x00\x00\x00\x00\x00\x00\x01\x00\x00",             // None, with an End
	} {
		r := codec.Read([]byte(s + "\x00\x00"))
		if p := plan.Take(r); !alike(p, api.Plan{}) || !r.Bad() || r.Left() != 0 || r.Byte() != 0 {
			t.Errorf("%x: %v", s, p)
		}
	}
}

func TestP6_4TakeOfFaults(t *testing.T) {
	good := laid(api.Plan{Kind: api.Late, End: 7, All: list{of(0, 5)}})
	if p := plan.Take(nil); !alike(p, api.Plan{}) {
		t.Error(p)
	}
	r := codec.Read(good)
	r.Fail()
	if p := plan.Take(r); !alike(p, api.Plan{}) || !r.Bad() {
		t.Error(p)
	}
	r = codec.Read(append([]byte{9}, good...))
	if p := plan.Take(r); !alike(p, api.Plan{}) || !r.Bad() {
		t.Error(p)
	}
	if p := plan.Take(r); !alike(p, api.Plan{}) || !r.Bad() {
		t.Error("behind a fault", p)
	}
	for _, p := range plans() {
		plan.Lay(nil, p)
	}
}

func TestTakeSharesNothing(t *testing.T) {
	for _, p := range plans() {
		b := laid(p)
		r := codec.Read(append(slices.Clone(b), b...))
		q := plan.Take(r)
		paint(q.All)
		for i, d := range q.Periods {
			if !slices.Equal(d.Coins, p.Periods[i].Coins) {
				t.Fatal("lists of one answer share", p)
			}
			paint(d.Coins)
		}
		scribble(q)
		if q := plan.Take(r); !alike(q, p) || !r.End() {
			t.Error("two answers share", q, p)
		}
		w, given := &codec.Writer{}, roomy(p)
		plan.Lay(w, given)
		if !alike(given, p) {
			t.Error("written into what was handed in", given, p)
		}
		scribble(given)
		if !bytes.Equal(w.Done(), b) {
			t.Error("what is laid changes with what was handed in", p)
		}
	}
}

// Any bytes: plans with bytes changed, left out and put in, and whatever else there is.
func TestP6_4TakeAny(t *testing.T) {
	r := rand.New(rand.NewPCG(6, 4))
	all := plans()
	well := 0
	for range 30000 {
		b := laid(all[r.IntN(len(all))])
		if r.IntN(10) == 0 {
			b = make([]byte, 1+r.IntN(80))
			for i := range b {
				b[i] = byte(r.IntN(7))
			}
		}
		for range r.IntN(3) {
			switch at, v := r.IntN(len(b)), byte(r.IntN(20)); r.IntN(3) {
			case 0:
				b[at] = v
			case 1:
				b = append(slices.Delete(b, at, at+1), v)
			case 2:
				b = slices.Insert(b, at, v)
			}
		}
		if holds(t, b) {
			well++
		}
	}
	if well < 5000 {
		t.Error("nearly all are faults:", well)
	}
}

// P1: plans that aren't Right are laid somehow, and what that is is read somehow.
func TestP1LayAny(t *testing.T) {
	for _, p := range append(small(), api.Plan{Periods: make([]api.Period, 300)}, api.Plan{Kind: 9, All: make(list, 300)}) {
		for _, q := range append(changes(p), p) {
			w := &codec.Writer{}
			plan.Lay(w, q)
			holds(t, w.Done())
		}
	}
}
