package codec_test

import (
	"bytes"
	"encoding/binary"
	"math/big"
	"math/rand/v2"
	"slices"
	"testing"

	"jointure/api"
	"jointure/codec"
)

const top = 1<<64 - 1

var most = api.Num{top, top, top, top}

type list = []api.Coin

// of is a coin of n.
func of(denom byte, n uint64) api.Coin { return api.Coin{Denom: denom, N: api.Num{n}} }

// full is n of each denomination.
func full(n api.Num) list {
	var l list
	for d := range byte(api.MaxDenom) {
		l = append(l, api.Coin{Denom: d, N: n})
	}
	return l
}

// A call is one of those that both a writer and a reader have, by its name.
type call string

const (
	aByte  call = "Byte"
	aFlag  call = "Flag"
	aShort call = "Short"
	aLong  call = "Long"
	aNum   call = "Num"
	aCoins call = "Coins"
)

var calls = []call{aByte, aFlag, aShort, aLong, aNum, aCoins}

// A part is a call with what it lays or reads.
type part struct {
	call
	n uint64 // of Byte, Flag (1: yes), Short and Long
	a api.Num
	l list
}

func (p part) same(q part) bool {
	return p.call == q.call && p.n == q.n && p.a == q.a && slices.Equal(p.l, q.l)
}

// write has the writer do a part.
func write(w *codec.Writer, p part) *codec.Writer {
	switch p.call {
	case aByte:
		return w.Byte(byte(p.n))
	case aFlag:
		return w.Flag(p.n == 1)
	case aShort:
		return w.Short(uint16(p.n))
	case aLong:
		return w.Long(p.n)
	case aNum:
		return w.Num(p.a)
	}
	return w.Coins(p.l)
}

// read has the reader do a call.
func read(r *codec.Reader, c call) part {
	p := part{call: c}
	switch c {
	case aByte:
		p.n = uint64(r.Byte())
	case aFlag:
		if r.Flag() {
			p.n = 1
		}
	case aShort:
		p.n = uint64(r.Short())
	case aLong:
		p.n = r.Long()
	case aNum:
		p.a = r.Num()
	case aCoins:
		p.l = r.Coins()
	}
	return p
}

// laid is what P4.1 says that a part is as bytes, by the library's own means.
func laid(p part) []byte {
	switch p.call {
	case aByte, aFlag:
		return []byte{byte(p.n)}
	case aShort:
		return binary.BigEndian.AppendUint16(nil, uint16(p.n))
	case aLong:
		return binary.BigEndian.AppendUint64(nil, p.n)
	case aNum:
		n := new(big.Int)
		for i := 3; i >= 0; i-- {
			n.Or(n.Lsh(n, 64), new(big.Int).SetUint64(p.a[i]))
		}
		return append([]byte{byte(len(n.Bytes()))}, n.Bytes()...)
	}
	b := []byte{byte(len(p.l))}
	for _, c := range p.l {
		b = append(append(b, c.Denom), laid(part{call: aNum, a: c.N})...)
	}
	return b
}

// parts are some of each call, with their edges.
func parts() []part {
	l := []part{{call: aFlag}, {call: aFlag, n: 1}}
	for _, n := range []uint64{0, 1, 2, 7, 127, 128, 254, 255} {
		l = append(l, part{call: aByte, n: n})
	}
	for _, n := range []uint64{0, 1, 255, 256, 258, 10000, 1 << 15, 1<<16 - 1} {
		l = append(l, part{call: aShort, n: n})
	}
	for _, n := range []uint64{0, 1, 255, 256, 1<<32 - 1, 1 << 40, 0x0102030405060708, 1 << 63, top} {
		l = append(l, part{call: aLong, n: n})
	}
	nums := []api.Num{{}, {1}, {255}, {256}, {top}, {0, 1}, {0, 0, 1}, {0, 0, 0, 1}, {1, 2, 3, 4}, {0, 0, 0, 1 << 63}, most}
	for bit := range 256 {
		var n api.Num
		n[bit/64] = 1 << (bit % 64)
		nums = append(nums, n)
	}
	for _, n := range nums {
		l = append(l, part{call: aNum, a: n})
	}
	for _, c := range []list{nil, {}, {of(0, 1)}, {of(7, 1)}, {of(1, 256), of(7, 5)}, {of(0, top), of(2, 1), of(3, 1<<40)}, {{Denom: 5, N: most}}, full(api.Num{1}), full(most)} {
		l = append(l, part{call: aCoins, l: c})
	}
	return l
}

// wrong are lists that aren't Right, of fewer than 256 coins.
func wrong() []list {
	return []list{
		{{}}, {of(3, 0)}, {of(0, 1), of(1, 0)}, {of(0, 0), of(1, 1)},
		{of(8, 1)}, {of(255, 1)}, {of(7, 1), of(8, 1)}, append(full(most), of(8, 1)), append(full(most), of(7, 1)),
		{of(1, 1), of(1, 1)}, {of(0, 1), of(0, 1)}, {of(1, 1), of(0, 1)}, {of(7, 1), of(0, 1)},
		{of(0, 1), of(2, 1), of(1, 1)}, {of(0, 1), of(2, 1), of(2, 2)},
		append(full(most), full(most)...), make(list, 255),
	}
}

func TestP4_1Bytes(t *testing.T) {
	for _, c := range []struct {
		part
		want string
	}{
		{part{call: aByte, n: 9}, "\x09"},
		{part{call: aFlag, n: 1}, "\x01"},
		{part{call: aFlag}, "\x00"},
		{part{call: aShort, n: 258}, "\x01\x02"},
		{part{call: aLong, n: 0x0102030405060708}, "\x01\x02\x03\x04\x05\x06\x07\x08"},
		{part{call: aNum}, "\x00"},
		{part{call: aNum, a: api.Num{256}}, "\x02\x01\x00"},
		{part{call: aNum, a: api.Num{0, 1}}, "\x09\x01\x00\x00\x00\x00\x00\x00\x00\x00"},
		{part{call: aCoins}, "\x00"},
		{part{call: aCoins, l: list{of(1, 256), of(7, 5)}}, "\x02\x01\x02\x01\x00\x07\x01\x05"},
	} {
		if p := write(&codec.Writer{}, c.part).Done(); string(p) != c.want {
			t.Errorf("%v: %x, not %x", c.part, p, c.want)
		}
	}
	for _, p := range parts() {
		if b := write(&codec.Writer{}, p).Done(); !bytes.Equal(b, laid(p)) {
			t.Errorf("%v: %x, not %x", p, b, laid(p))
		}
	}
}

// One part is behind the other, a writer answers itself, and what is Done may be gone on with.
func TestP4_1Behind(t *testing.T) {
	w := &codec.Writer{}
	if p := w.Done(); len(p) != 0 {
		t.Errorf("the zero writer has written %x", p)
	}
	var want []byte
	for _, p := range parts() {
		if x := write(w, p); x != w {
			t.Fatalf("%s answers another writer", p.call)
		}
		want = append(want, laid(p)...)
		if b := w.Done(); !bytes.Equal(b, want) {
			t.Fatalf("behind %v: %x, not %x", p, b, want)
		}
		if b := w.Done(); !bytes.Equal(b, want) {
			t.Fatalf("Done again: %x, not %x", b, want)
		}
	}
}

func TestP4_1NilWriter(t *testing.T) {
	var w *codec.Writer
	for _, p := range parts() {
		if x := write(w, p); x != nil {
			t.Error(p, x)
		}
		if b := write(w, p).Done(); b != nil {
			t.Error(p, b)
		}
	}
	if b := w.Byte(1).Flag(true).Short(2).Long(3).Num(most).Coins(full(most)).Done(); b != nil {
		t.Error(b)
	}
	if w.Done() != nil {
		t.Error(w.Done())
	}
}

// What was laid is read, from where the last call ended, and Left and End tell so at each place.
func TestP4_2Reads(t *testing.T) {
	all := parts()
	w := &codec.Writer{}
	for _, p := range all {
		write(w, p)
	}
	b := w.Done()
	r := codec.Read(b)
	left := len(b)
	for _, p := range all {
		if r.Left() != left || r.End() || r.Bad() {
			t.Fatalf("ahead of %v: %d left, not %d; %v %v", p, r.Left(), left, r.End(), r.Bad())
		}
		if q := read(r, p.call); !q.same(p) {
			t.Fatalf("%v, not %v", q, p)
		}
		left -= len(laid(p))
	}
	if r.Left() != 0 || !r.End() || r.Bad() {
		t.Error(r.Left(), r.End(), r.Bad())
	}
	for _, p := range all {
		r := codec.Read(append(laid(p), 77))
		if q := read(r, p.call); !q.same(p) || r.Left() != 1 || r.End() || r.Bad() {
			t.Error(p, q)
		}
		if r.Byte() != 77 || !r.End() || r.Bad() {
			t.Error(p)
		}
	}
}

func TestP4_2OfNothing(t *testing.T) {
	for _, p := range [][]byte{nil, {}} {
		r := codec.Read(p)
		if r == nil || r.Bad() || r.Left() != 0 || !r.End() {
			t.Error(r)
		}
		for _, c := range calls {
			r := codec.Read(p)
			isFault(t, r, read(r, c))
		}
	}
}

// isFault holds a reader, and what it answered, against what is said of it from the first fault on.
func isFault(t *testing.T, r *codec.Reader, answered part) {
	t.Helper()
	if !answered.same(part{call: answered.call}) {
		t.Errorf("with a fault: %v", answered)
	}
	for range 2 {
		for _, c := range calls {
			if p := read(r, c); !p.same(part{call: c}) {
				t.Errorf("behind a fault: %v", p)
			}
			if !r.Bad() || r.Left() != 0 || r.End() {
				t.Errorf("behind a fault, and %s: %v %d %v", c, r.Bad(), r.Left(), r.End())
			}
		}
		r.Fail()
	}
}

// The bytes end ahead of each part, and within it; what is behind them in memory isn't read.
func TestP4_2Short(t *testing.T) {
	for _, p := range parts() {
		whole := laid(p)
		for n := range len(whole) {
			r := codec.Read(whole[:n])
			isFault(t, r, read(r, p.call))
			r = codec.Read(append([]byte{1, 2, 3}, whole[:n]...))
			if r.Byte() != 1 || r.Short() != 0x0203 || r.Bad() || r.Left() != n {
				t.Error(p, n)
			}
			isFault(t, r, read(r, p.call))
		}
	}
}

func TestP4_2Flag(t *testing.T) {
	for b := range 256 {
		r := codec.Read([]byte{byte(b), 1, 1, 1, 1, 1, 1, 1, 1})
		is := r.Flag()
		if b > 1 {
			if is {
				t.Error(b)
			}
			isFault(t, r, part{call: aFlag})
		} else if is != (b == 1) || r.Bad() || r.Left() != 8 {
			t.Error(b, is)
		}
	}
}

func TestP4_2Num(t *testing.T) {
	for size := range 256 {
		for _, first := range []byte{0, 1, 255} {
			b := append([]byte{byte(size), first}, bytes.Repeat([]byte{1}, 300)...)
			r := codec.Read(b)
			n := r.Num()
			if size > 32 || size > 0 && first == 0 {
				isFault(t, r, part{call: aNum, a: n})
			} else if r.Bad() || r.Left() != 301-size || !bytes.Equal(laid(part{call: aNum, a: n}), b[:size+1]) {
				t.Error(size, first, n)
			}
		}
	}
}

func TestP4_2Coins(t *testing.T) {
	behind := []byte{1, 1, 1, 1, 1, 1, 1, 1, 1, 1}
	for _, l := range wrong() {
		for _, end := range [][]byte{nil, behind} {
			r := codec.Read(append(laid(part{call: aCoins, l: l}), end...))
			isFault(t, r, read(r, aCoins))
		}
	}
	for _, s := range []string{
		"\x01\x00\x02\x00\x01", // a nought ahead
		"\x01\x00\x01\x00",     // of the last byte, too
		"\x02\x00\x01\x05\x01\x02\x00\x05",
		"\x01\x00\x21" + "123456789012345678901234567890123", // more than 32 bytes
	} {
		for _, end := range [][]byte{nil, behind} {
			r := codec.Read(append([]byte(s), end...))
			isFault(t, r, read(r, aCoins))
		}
	}
	for many := api.MaxDenom + 1; many < 256; many++ {
		var b []byte
		for i := range many {
			b = append(b, byte(i), 1, 1)
		}
		r := codec.Read(append([]byte{byte(many)}, b...))
		isFault(t, r, read(r, aCoins))
	}
}

func TestP4_2Fail(t *testing.T) {
	for _, p := range [][]byte{nil, {1}, {1, 1, 1, 1, 1, 1, 1, 1, 1, 1, 1, 1, 1}} {
		r := codec.Read(p)
		r.Fail()
		isFault(t, r, part{call: aByte})
	}
	r := codec.Read([]byte{1, 1, 1})
	if r.Byte() != 1 || !r.Flag() || r.Left() != 1 {
		t.Error(r.Left())
	}
	r.Fail()
	isFault(t, r, part{call: aByte})
}

func TestP4_2NilReader(t *testing.T) {
	var r *codec.Reader
	if !r.Bad() || r.Left() != 0 || r.End() {
		t.Error(r.Bad(), r.Left(), r.End())
	}
	r.Fail()
	isFault(t, r, part{call: aByte})
}

// expect is what P4.2 says that a call answers of bytes, and how many it reads; false: it is a fault.
func expect(c call, b []byte) (part, int, bool) {
	p := part{call: c}
	size := map[call]int{aByte: 1, aFlag: 1, aShort: 2, aLong: 8, aNum: 1, aCoins: 1}[c]
	if len(b) < size {
		return p, 0, false
	}
	n := new(big.Int).SetBytes(b[:size]).Uint64()
	switch c {
	case aFlag:
		p.n = n
		return p, 1, n < 2
	case aNum:
		if n > 32 || len(b) < 1+int(n) || n > 0 && b[1] == 0 {
			return p, 0, false
		}
		for i, x := range b[1 : 1+n] {
			p.a[(int(n)-1-i)/8] |= uint64(x) << ((int(n) - 1 - i) % 8 * 8)
		}
		return p, 1 + int(n), true
	case aCoins:
		at, last := 1, -1
		for range n {
			if at >= len(b) || int(b[at]) <= last || b[at] >= api.MaxDenom {
				return p, 0, false
			}
			last = int(b[at])
			q, size, ok := expect(aNum, b[at+1:])
			if !ok || q.a == (api.Num{}) {
				return p, 0, false
			}
			p.l = append(p.l, api.Coin{Denom: b[at], N: q.a})
			at += 1 + size
		}
		return p, at, true
	}
	p.n = n
	return p, size, true
}

// follow does calls on a reader of bytes, and holds each against what is expected; it tells how many were well.
func follow(t *testing.T, b []byte, next func() call) int {
	t.Helper()
	r := codec.Read(b)
	for well, at := 0, 0; ; well++ {
		c := next()
		want, size, ok := expect(c, b[at:])
		got := read(r, c)
		if !ok {
			isFault(t, r, got)
			return well
		}
		at += size
		if !got.same(want) || r.Bad() || r.Left() != len(b)-at || r.End() != (at == len(b)) {
			t.Fatalf("%s of %x at %d: %v, not %v", c, b, at-size, got, want)
		}
	}
}

// Each call on all bytes of up to five from a few values.
func TestP4_2AllShort(t *testing.T) {
	values := []byte{0, 1, 2, 3, 7, 8, 33}
	var try func(b []byte)
	try = func(b []byte) {
		for _, c := range calls {
			follow(t, b, func() call { return c })
		}
		for _, v := range values {
			if len(b) < 5 {
				try(append(slices.Clone(b), v))
			}
		}
	}
	try(nil)
}

// Any calls on bytes that are like those that are laid: records with a byte changed, left out or put in.
func TestP4_2Any(t *testing.T) {
	r := rand.New(rand.NewPCG(4, 2))
	all := parts()
	well := 0
	for range 50000 {
		var b []byte
		var order []call
		for range 1 + r.IntN(5) {
			p := all[r.IntN(len(all))]
			if r.IntN(3) == 0 {
				p = part{call: aCoins, l: full(api.Num{r.Uint64()>>r.IntN(64) | 1})[r.IntN(8):]}
			}
			b, order = append(b, laid(p)...), append(order, p.call)
		}
		if at := r.IntN(len(b)); r.IntN(2) == 0 {
			switch v := byte(r.IntN(10)); r.IntN(3) {
			case 0:
				b[at] = v
			case 1:
				b = slices.Delete(b, at, at+1)
			case 2:
				b = slices.Insert(b, at, v)
			}
		}
		well += follow(t, b, func() call {
			if len(order) == 0 || r.IntN(40) == 0 {
				return calls[r.IntN(len(calls))]
			}
			c := order[0]
			order = order[1:]
			return c
		})
	}
	if well < 50000 {
		t.Error("nearly all are faults:", well)
	}
}

// scribble writes over all of a list, and over the room behind it.
func scribble[T any](l []T, with T) {
	l = l[:cap(l)]
	for i := range l {
		l[i] = with
	}
}

func TestWriterSharesNothing(t *testing.T) {
	l := make(list, 0, 9)
	l = append(l, full(api.Num{7})...)
	want := laid(part{call: aCoins, l: l})
	w := (&codec.Writer{}).Coins(l)
	if !slices.Equal(l, full(api.Num{7})) || l[:9][8] != (api.Coin{}) {
		t.Error("written into what was handed in", l)
	}
	scribble(l, of(1, 1))
	if !bytes.Equal(w.Done(), want) {
		t.Error("what was handed in is shared")
	}
	first, second := w.Done(), w.Done()
	scribble(first, 99)
	if !bytes.Equal(second, want) || !bytes.Equal(w.Done(), want) {
		t.Error("what is answered is shared")
	}
	w.Byte(5).Long(6)
	if !bytes.Equal(second, want) {
		t.Error("what was answered is written over", second)
	}
	scribble(second, 99)
	want = append(want, 5, 0, 0, 0, 0, 0, 0, 0, 6)
	if !bytes.Equal(w.Done(), want) {
		t.Error("what is written is shared")
	}
	if p := (&codec.Writer{}).Done(); len(p) != 0 {
		t.Error("two writers share", p)
	}
}

func TestReaderSharesNothing(t *testing.T) {
	w := (&codec.Writer{}).Byte(3).Coins(full(most)).Coins(full(most)).Num(most).Long(top)
	p := make([]byte, 0, 4096)
	p = append(p, w.Done()...)
	given := slices.Clone(p)
	r, other := codec.Read(p), codec.Read(p)
	if r.Byte() != 3 {
		t.Error("Byte")
	}
	first := r.Coins()
	if !slices.Equal(first, full(most)) || !bytes.Equal(p, given) {
		t.Error(first)
	}
	scribble(p, 0)
	scribble(first, of(9, 9))
	if l := r.Coins(); !slices.Equal(l, full(most)) {
		t.Error(l)
	}
	if r.Num() != most || r.Long() != top || !r.End() {
		t.Error("what was handed in is shared")
	}
	if other.Byte() != 3 || !slices.Equal(other.Coins(), full(most)) || other.Left() != len(given)-1-len(laid(part{call: aCoins, l: full(most)})) {
		t.Error("two readers share")
	}
	p = append(p[:0], given...)
	r = codec.Read(p)
	r.Fail()
	if !bytes.Equal(p, given) {
		t.Error("written into what was handed in")
	}
}

// P1: of coins that aren't Right no more is asked than that the call ends and answers its writer.
func TestP1WrongCoins(t *testing.T) {
	for _, l := range append(wrong(), make(list, 256), make(list, 1000)) {
		w := &codec.Writer{}
		if w.Coins(l) != w {
			t.Error(l)
		}
		if (*codec.Writer)(nil).Coins(l) != nil {
			t.Error(l)
		}
		r := codec.Read(w.Done())
		for range 9 {
			r.Coins()
		}
	}
}

// P1: a reader that is handed whatever there is ends, and goes on answering.
func TestP1AnyBytes(t *testing.T) {
	r := rand.New(rand.NewPCG(4, 1))
	for range 20000 {
		b := make([]byte, r.IntN(80))
		for i := range b {
			b[i] = byte(r.Uint32())
		}
		follow(t, b, func() call { return calls[r.IntN(len(calls))] })
	}
}
