package num_test

import (
	"bytes"
	"encoding/binary"
	"math/big"
	"math/rand/v2"
	"strings"
	"testing"

	"jointure/api"
	"jointure/num"
)

const top = 1<<64 - 1

const mostText = "115792089237316195423570985008687907853269984665640564039457584007913129639935"

var (
	zero = api.Num{}
	most = api.Num{top, top, top, top}
)

func toBig(a api.Num) *big.Int {
	n := new(big.Int)
	for i := 3; i >= 0; i-- {
		n.Lsh(n, 64)
		n.Or(n, new(big.Int).SetUint64(a[i]))
	}
	return n
}

// fromBig is n as a number, and false if it is none.
func fromBig(n *big.Int) (api.Num, bool) {
	if n.Sign() < 0 || n.BitLen() > 256 {
		return api.Num{}, false
	}
	var a api.Num
	p := n.FillBytes(make([]byte, 32))
	for i := range a {
		a[3-i] = binary.BigEndian.Uint64(p[8*i:])
	}
	return a, true
}

// edges are numbers at which a part overflows, is empty, or is nearly either.
func edges() []api.Num {
	return []api.Num{
		zero, {1}, {2}, {3}, {9}, {10}, {1 << 63}, {top - 1}, {top},
		{0, 1}, {1, 1}, {top, 1}, {0, 1 << 63}, {0, top}, {top, top},
		{0, 0, 1}, {1, 0, 1}, {top, top, 1}, {0, 0, 1 << 63}, {top, 0, top}, {top, top, top},
		{0, 0, 0, 1}, {1, 0, 0, 1}, {top, top, top, 1}, {0, 0, 0, 1 << 63}, {1, 0, 0, 1 << 63},
		{top, 0, 0, 1 << 63}, {0, top, 0, 1 << 63}, {top, top, top, 1<<63 - 1}, {0, 0, top - 1, 1 << 63},
		{0, 0, 0, top}, {1, 0, 0, top}, {0, 0, top, top}, {top, top, 0, top}, {0, top, top, top},
		{top - 1, top, top, top}, most,
	}
}

// odd lays parts together, by a source that always tells the same, to numbers whose divisions are hard.
func odd(r *rand.Rand) api.Num {
	some := []uint64{0, 0, 1, 2, 1<<63 - 1, 1 << 63, 1<<63 + 1, top - 1, top}
	var a api.Num
	for i := range 1 + r.IntN(4) {
		if a[i] = some[r.IntN(len(some))]; r.IntN(3) == 0 {
			a[i] = r.Uint64() >> r.IntN(64)
		}
	}
	return a
}

// want is what is asked of a call: the number, or the error beside 0.
func want(t *testing.T, what string, got api.Num, e api.Errno, n *big.Int, fault api.Errno) {
	t.Helper()
	if w, ok := fromBig(n); ok {
		if got != w || e != api.OK {
			t.Errorf("%s: %v, %d; want %v", what, got, e, w)
		}
	} else if got != zero || e != fault {
		t.Errorf("%s: %v, %d; want error %d", what, got, e, fault)
	}
}

func checkPair(t *testing.T, a, b api.Num) {
	t.Helper()
	x, y := toBig(a), toBig(b)
	what := x.String() + " and " + y.String()
	if got := num.Cmp(a, b); got != x.Cmp(y) {
		t.Errorf("Cmp %s: %d", what, got)
	}
	n, e := num.Add(a, b)
	want(t, "Add "+what, n, e, new(big.Int).Add(x, y), api.ErrOver)
	n, e = num.Sub(a, b)
	want(t, "Sub "+what, n, e, new(big.Int).Sub(x, y), api.ErrFunds)
	n, e = num.Mul(a, b)
	want(t, "Mul "+what, n, e, new(big.Int).Mul(x, y), api.ErrOver)
	least, rest := x, new(big.Int)
	if x.Cmp(y) > 0 {
		least, rest = y, new(big.Int).Sub(x, y)
	}
	want(t, "Least "+what, num.Least(a, b), api.OK, least, api.OK)
	want(t, "Rest "+what, num.Rest(a, b), api.OK, rest, api.OK)
}

func checkMulDiv(t *testing.T, a, b, c api.Num) {
	t.Helper()
	what := "MulDiv " + toBig(a).String() + " " + toBig(b).String() + " " + toBig(c).String()
	if c == zero {
		for _, up := range []bool{false, true} {
			if n, e := num.MulDiv(a, b, c, up); n != zero || e != api.ErrArg {
				t.Errorf("%s: %v, %d", what, n, e)
			}
		}
		return
	}
	down, rest := new(big.Int).QuoRem(new(big.Int).Mul(toBig(a), toBig(b)), toBig(c), new(big.Int))
	n, e := num.MulDiv(a, b, c, false)
	want(t, what, n, e, down, api.ErrOver)
	if rest.Sign() != 0 {
		down.Add(down, big.NewInt(1))
	}
	n, e = num.MulDiv(a, b, c, true)
	want(t, what+" up", n, e, down, api.ErrOver)
}

func TestP1_1Of(t *testing.T) {
	for _, n := range []uint64{0, 1, 7, 1 << 63, top} {
		if num.Of(n) != (api.Num{n, 0, 0, 0}) {
			t.Error(n, num.Of(n))
		}
	}
}

func TestP1_1Examples(t *testing.T) {
	for _, c := range []struct {
		what    string
		of      func(a, b api.Num) (api.Num, api.Errno)
		a, b, n api.Num
		e       api.Errno
	}{
		{"Add", num.Add, api.Num{top, top, top}, num.Of(1), api.Num{0, 0, 0, 1}, api.OK},
		{"Add", num.Add, most, zero, most, api.OK},
		{"Add", num.Add, most, num.Of(1), zero, api.ErrOver},
		{"Add", num.Add, most, most, zero, api.ErrOver},
		{"Sub", num.Sub, api.Num{0, 0, 0, 1}, num.Of(1), api.Num{top, top, top}, api.OK},
		{"Sub", num.Sub, most, most, zero, api.OK},
		{"Sub", num.Sub, zero, num.Of(1), zero, api.ErrFunds},
		{"Sub", num.Sub, api.Num{top, top, top}, api.Num{0, 0, 0, 1}, zero, api.ErrFunds},
		{"Mul", num.Mul, most, num.Of(1), most, api.OK},
		{"Mul", num.Mul, most, zero, zero, api.OK},
		{"Mul", num.Mul, api.Num{0, 0, 1}, api.Num{0, 1}, api.Num{0, 0, 0, 1}, api.OK},
		{"Mul", num.Mul, api.Num{0, 0, 1}, api.Num{0, 0, 1}, zero, api.ErrOver},
		{"Mul", num.Mul, api.Num{top, top}, api.Num{top, top}, api.Num{1, 0, top - 1, top}, api.OK},
		{"Mul", num.Mul, most, num.Of(2), zero, api.ErrOver},
	} {
		if n, e := c.of(c.a, c.b); n != c.n || e != c.e {
			t.Errorf("%s %v %v: %v, %d; want %v, %d", c.what, c.a, c.b, n, e, c.n, c.e)
		}
	}
	if num.Least(most, num.Of(1)) != num.Of(1) || num.Least(num.Of(1), most) != num.Of(1) {
		t.Error("Least")
	}
	if num.Rest(num.Of(1), most) != zero || num.Rest(most, num.Of(1)) != (api.Num{top - 1, top, top, top}) {
		t.Error("Rest")
	}
}

func TestP1_1Edges(t *testing.T) {
	for _, a := range edges() {
		for _, b := range edges() {
			checkPair(t, a, b)
		}
	}
}

func TestP1_1Odd(t *testing.T) {
	r := rand.New(rand.NewPCG(1, 1))
	for range 20000 {
		checkPair(t, odd(r), odd(r))
	}
}

func TestP1_2Examples(t *testing.T) {
	half := api.Num{0, 0, 0, 1 << 63}
	for _, c := range []struct {
		a, b, c api.Num
		up      bool
		n       api.Num
		e       api.Errno
	}{
		{num.Of(7), num.Of(3), num.Of(2), false, num.Of(10), api.OK},
		{num.Of(7), num.Of(3), num.Of(2), true, num.Of(11), api.OK},
		{num.Of(6), num.Of(3), num.Of(2), true, num.Of(9), api.OK},
		{zero, most, most, true, zero, api.OK},
		{num.Of(1), num.Of(1), most, false, zero, api.OK},
		{num.Of(1), num.Of(1), most, true, num.Of(1), api.OK},
		{most, most, most, false, most, api.OK},
		{most, most, most, true, most, api.OK},
		{most, half, half, true, most, api.OK},
		{most, num.Of(2), num.Of(2), false, most, api.OK},
		{most, num.Of(2), num.Of(1), false, zero, api.ErrOver},
		{most, num.Of(3), num.Of(2), true, zero, api.ErrOver},
		{most, most, num.Of(1), false, zero, api.ErrOver},
		{most, most, zero, false, zero, api.ErrArg},
		{zero, zero, zero, true, zero, api.ErrArg},
	} {
		if n, e := num.MulDiv(c.a, c.b, c.c, c.up); n != c.n || e != c.e {
			t.Errorf("%v: %v, %d", c, n, e)
		}
	}
}

// Seven times this number is 2^258 - 1: by 4 that is 2^256 - 1 and a rest, so that rounded up it is no number.
func TestP1_2UpIsOver(t *testing.T) {
	a := api.Num{0x9249249249249249, 0x4924924924924924, 0x2492492492492492, 0x9249249249249249}
	if n, e := num.MulDiv(a, num.Of(7), num.Of(4), false); n != most || e != api.OK {
		t.Error(n, e)
	}
	if n, e := num.MulDiv(a, num.Of(7), num.Of(4), true); n != zero || e != api.ErrOver {
		t.Error(n, e)
	}
}

func TestP1_2Edges(t *testing.T) {
	for _, a := range edges() {
		for _, b := range edges() {
			for _, c := range edges() {
				checkMulDiv(t, a, b, c)
			}
		}
	}
}

func TestP1_2Odd(t *testing.T) {
	r := rand.New(rand.NewPCG(2, 2))
	for range 100000 {
		checkMulDiv(t, odd(r), odd(r), odd(r))
	}
}

func TestP1_3Bytes(t *testing.T) {
	for _, c := range []struct {
		a api.Num
		p []byte
	}{
		{zero, nil},
		{num.Of(1), []byte{1}},
		{num.Of(255), []byte{255}},
		{num.Of(256), []byte{1, 0}},
		{num.Of(0x0102030405060708), []byte{1, 2, 3, 4, 5, 6, 7, 8}},
		{api.Num{2, 1}, []byte{1, 0, 0, 0, 0, 0, 0, 0, 2}},
		{most, bytes.Repeat([]byte{255}, 32)},
	} {
		if p := num.Bytes(c.a); !bytes.Equal(p, c.p) {
			t.Errorf("Bytes %v: %x", c.a, p)
		}
		if a, e := num.Read(c.p); a != c.a || e != api.OK {
			t.Errorf("Read %x: %v, %d", c.p, a, e)
		}
	}
}

func TestP1_3ReadWrong(t *testing.T) {
	for _, p := range [][]byte{
		{0}, {0, 1}, {0, 0},
		make([]byte, 32), make([]byte, 33),
		append([]byte{0}, bytes.Repeat([]byte{255}, 32)...),
		bytes.Repeat([]byte{1}, 33), bytes.Repeat([]byte{255}, 1000),
	} {
		if a, e := num.Read(p); a != zero || e != api.ErrForm {
			t.Errorf("Read %x: %v, %d", p, a, e)
		}
	}
	if a, e := num.Read([]byte{}); a != zero || e != api.OK {
		t.Error(a, e)
	}
}

func TestP1_3Text(t *testing.T) {
	for _, c := range []struct {
		a api.Num
		s string
	}{
		{zero, "0"},
		{num.Of(9), "9"},
		{num.Of(10), "10"},
		{num.Of(top), "18446744073709551615"},
		{api.Num{0, 1}, "18446744073709551616"},
		{most, mostText},
	} {
		if s := num.Text(c.a); s != c.s {
			t.Errorf("Text %v: %s", c.a, s)
		}
		if a, e := num.Parse(c.s); a != c.a || e != api.OK {
			t.Errorf("Parse %s: %v, %d", c.s, a, e)
		}
	}
}

func TestP1_3ParseWrong(t *testing.T) {
	long := strings.Repeat("9", 1000)
	for s, fault := range map[string]api.Errno{
		"": api.ErrForm, "00": api.ErrForm, "007": api.ErrForm, "0" + mostText: api.ErrForm,
		"+1": api.ErrForm, "-1": api.ErrForm, "-0": api.ErrForm, " 1": api.ErrForm, "1 ": api.ErrForm, "1\n": api.ErrForm,
		"1x": api.ErrForm, "x1": api.ErrForm, "0x1": api.ErrForm, "1e3": api.ErrForm, "1_0": api.ErrForm, "1.0": api.ErrForm,
		"/": api.ErrForm, ":": api.ErrForm, "\x00": api.ErrForm, "1\x00": api.ErrForm,
		"\u0661": api.ErrForm, "1\u0661": api.ErrForm, "\uff11": api.ErrForm, "1\xff": api.ErrForm, "\xb1": api.ErrForm, "1\u0131": api.ErrForm,
		long + "x": api.ErrForm, long + "\xff": api.ErrForm, "0" + long: api.ErrForm,
		"115792089237316195423570985008687907853269984665640564039457584007913129639936": api.ErrOver,
		"115792089237316195423570985008687907853269984665640564039457584007913129639940": api.ErrOver,
		"200000000000000000000000000000000000000000000000000000000000000000000000000000": api.ErrOver,
		mostText + "0": api.ErrOver, "1" + strings.Repeat("0", 78): api.ErrOver, long: api.ErrOver,
		"1" + strings.Repeat("0", 1000): api.ErrOver,
	} {
		if a, e := num.Parse(s); a != zero || e != fault {
			t.Errorf("Parse %q: %v, %d; want %d", s, a, e, fault)
		}
	}
}

// Whatever a number is, its bytes and its text are those that are asked for, and lead back to it.
func TestP1_3ThereAndBack(t *testing.T) {
	r := rand.New(rand.NewPCG(3, 3))
	l := edges()
	for range 20000 {
		l = append(l, odd(r))
	}
	for _, a := range l {
		p, s := num.Bytes(a), num.Text(a)
		if !bytes.Equal(p, toBig(a).Bytes()) || s != toBig(a).String() {
			t.Errorf("%v: %x, %s", a, p, s)
		}
		if b, e := num.Read(p); b != a || e != api.OK {
			t.Errorf("Read %x: %v, %d", p, b, e)
		}
		if b, e := num.Parse(s); b != a || e != api.OK {
			t.Errorf("Parse %s: %v, %d", s, b, e)
		}
	}
}

func TestNothingIsShared(t *testing.T) {
	p := []byte{1, 2, 3}
	a, _ := num.Read(p)
	if !bytes.Equal(p, []byte{1, 2, 3}) {
		t.Error("Read wrote into what it was handed")
	}
	p[0] = 9
	if a != num.Of(0x010203) {
		t.Error("Read kept what it was handed")
	}
	q := num.Bytes(a)
	q[0] = 9
	if !bytes.Equal(num.Bytes(a), []byte{1, 2, 3}) {
		t.Error("Bytes handed out what it keeps")
	}
}
