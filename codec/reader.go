package codec

import (
	"bytes"

	"jointure/api"
	"jointure/coins"
	"jointure/num"
)

// Reader reads records: each call what the writer's call of that name lays.
type Reader struct {
	rest []byte // what isn't read yet; with a fault none
	bad  bool
}

// Read: of bytes. They are copied, since they may be written over while the reader goes on.
func Read(p []byte) *Reader { return &Reader{rest: bytes.Clone(p)} }

// Fail: it is no record.
func (r *Reader) Fail() {
	if r != nil {
		*r = Reader{bad: true}
	}
}

// Bad: was there a fault?
func (r *Reader) Bad() bool { return r == nil || r.bad }

// Left: how many bytes are.
func (r *Reader) Left() int {
	if r.Bad() {
		return 0
	}
	return len(r.rest)
}

// End: was there no fault, and is nothing left?
func (r *Reader) End() bool { return !r.Bad() && r.Left() == 0 }

// Byte: one.
func (r *Reader) Byte() byte { return byte(r.number(1)) }

// Flag: 1, or 0.
func (r *Reader) Flag() bool {
	b := r.Byte()
	if b > 1 {
		r.Fail()
	}
	return b == 1
}

// Short: two bytes, the highest first.
func (r *Reader) Short() uint16 { return uint16(r.number(2)) }

// Long: eight bytes, the highest first.
func (r *Reader) Long() uint64 { return r.number(8) }

// Num: how many bytes, and these.
func (r *Reader) Num() api.Num {
	n, e := num.Read(r.take(int(r.Byte())))
	if e != api.OK {
		r.Fail()
	}
	return n
}

// Coins: how many, and these.
func (r *Reader) Coins() []api.Coin {
	var l []api.Coin
	many := int(r.Byte())
next:
	if len(l) < many && !r.Bad() {
		denom := r.Byte()
		l = append(l, api.Coin{Denom: denom, N: r.Num()})
		goto next
	}
	if !coins.Right(l) {
		r.Fail()
	}
	if r.Bad() {
		return nil
	}
	return l
}

// number is the number of the next bytes, the highest first; with a fault there are none, and it is 0.
func (r *Reader) number(size int) uint64 {
	var n uint64
	for _, b := range r.take(size) {
		n = n<<8 | uint64(b)
	}
	return n
}

// take cuts off the next bytes, so that who has them can't reach those behind them; with a fault none.
func (r *Reader) take(size int) []byte {
	if r.Bad() {
		return nil
	}
	if size > len(r.rest) {
		r.Fail()
		return nil
	}
	p := r.rest[:size:size]
	r.rest = r.rest[size:]
	return p
}
