package gauge_test

import (
	"math"
	"math/big"
	"math/rand/v2"
	"slices"
	"testing"

	"jointure/api"
	"jointure/gauge"
)

const top = 1<<64 - 1

func toBig(a api.Num) *big.Int {
	n := new(big.Int)
	for i := 3; i >= 0; i-- {
		n.Lsh(n, 64)
		n.Or(n, new(big.Int).SetUint64(a[i]))
	}
	return n
}

func fromBig(n *big.Int) api.Num {
	var a api.Num
	low := new(big.Int).SetUint64(top)
	for i := range a {
		a[i] = new(big.Int).And(new(big.Int).Rsh(n, uint(64*i)), low).Uint64()
	}
	return a
}

// nearest is what Float promises, by the library's fractions, which round to the nearest one, and to the even one of two.
func nearest(a api.Num) float64 {
	f, _ := new(big.Rat).SetInt(toBig(a)).Float64()
	return f
}

// mostly has few bits beyond the 53 of a float64, so that halves are often met.
func mostly(r *rand.Rand) api.Num {
	n := new(big.Int).SetUint64(r.Uint64() >> 11 << 1)
	n.Lsh(n, 1)
	n.Or(n, new(big.Int).SetUint64(r.Uint64N(4)))
	n.Lsh(n, uint(r.IntN(200)))
	if r.IntN(2) == 0 {
		n.SetBit(n, r.IntN(n.BitLen()+1), 1)
	}
	return fromBig(n)
}

// P3.1
func TestFloat(t *testing.T) {
	for _, c := range []struct {
		a    api.Num
		want float64
	}{
		{api.Num{}, 0},
		{api.Num{1}, 1},
		{api.Num{1 << 53}, 1 << 53},
		{api.Num{1<<53 + 1}, 1 << 53},
		{api.Num{1<<53 + 2}, 1<<53 + 2},
		{api.Num{1<<53 + 3}, 1<<53 + 4},
		{api.Num{1<<63 + 1<<10}, 1 << 63},
		{api.Num{1<<63 + 1<<10 + 1}, 1<<63 + 1<<11},
		{api.Num{top}, 1 << 64},
		{api.Num{0, 1}, 1 << 64},
		{api.Num{0, 1 << 63}, 1 << 127},
		{api.Num{0, 1<<63 + 1<<10}, 1 << 127},
		{api.Num{1, 1<<63 + 1<<10}, 1<<127 + 1<<75},
		{api.Num{0, 0, 1<<63 + 1<<10}, 1 << 191},
		{api.Num{1, 0, 1<<63 + 1<<10}, 1<<191 + 1<<139},
		{api.Num{0, 0, 0, 1<<63 + 1<<10}, 1 << 255},
		{api.Num{1, 0, 0, 1<<63 + 1<<10}, 1<<255 + 1<<203},
		{api.Num{0, 1, 0, 1<<63 + 1<<10}, 1<<255 + 1<<203},
		{api.Num{0, 0, 1, 1<<63 + 1<<10}, 1<<255 + 1<<203},
		{api.Num{0, 0, 0, 1}, 1 << 192},
		{api.Num{top, top, top, top}, 1 << 256},
	} {
		if x := gauge.Float(c.a); x != c.want || x != nearest(c.a) {
			t.Errorf("Float(%v) = %v, not %v", c.a, x, c.want)
		}
	}
}

// TestFloatOfAll: of each power of 2, with and without what is a half of the last bit, and what is just beside it.
func TestFloatOfAll(t *testing.T) {
	one := big.NewInt(1)
	for high := range 256 {
		for low := range high + 1 {
			n := new(big.Int).Lsh(one, uint(high))
			n.SetBit(n, low, 1)
			for _, m := range []*big.Int{n, new(big.Int).Add(n, one), new(big.Int).Sub(n, one)} {
				a := fromBig(m)
				if x := gauge.Float(a); x != nearest(a) {
					t.Fatalf("Float(%v) = %v, not %v", a, x, nearest(a))
				}
			}
		}
	}
	r := rand.New(rand.NewPCG(3, 1))
	for range 20000 {
		for _, a := range []api.Num{mostly(r), {r.Uint64(), r.Uint64(), r.Uint64(), r.Uint64() >> r.IntN(64)}} {
			if x := gauge.Float(a); x != nearest(a) {
				t.Fatalf("Float(%v) = %v, not %v", a, x, nearest(a))
			}
		}
	}
}

// P3.1
func TestPoint(t *testing.T) {
	for _, c := range []struct {
		a, b api.Num
		want complex128
	}{
		{api.Num{}, api.Num{}, 0},
		{api.Num{3}, api.Num{4}, 3 + 4i},
		{api.Num{4}, api.Num{3}, 4 + 3i},
		{api.Num{1<<53 + 1}, api.Num{1<<53 + 3}, 1<<53 + (1<<53+4)*1i},
		{api.Num{top, top, top, top}, api.Num{0, 1}, 1<<256 + 1<<64*1i},
	} {
		if x := gauge.Point(c.a, c.b); x != c.want {
			t.Errorf("Point(%v, %v) = %v, not %v", c.a, c.b, x, c.want)
		}
	}
}

// P3.2
func TestSum(t *testing.T) {
	const big = 1 << 53
	for _, c := range []struct {
		l    []complex128
		want complex128
	}{
		{nil, 0},
		{[]complex128{}, 0},
		{[]complex128{1 - 2i}, 1 - 2i},
		{[]complex128{1, 2i, 3 + 1i}, 4 + 3i},
		{[]complex128{5, -5, -2i}, -2i},
		// The order is to be seen: what is too small is lost behind what is great, and isn't ahead of it.
		{[]complex128{big, 1, 1}, big},
		{[]complex128{1, 1, big}, big + 2},
		{[]complex128{big * 1i, 1i, 1i}, big * 1i},
		{[]complex128{1i, 1i, big * 1i}, (big + 2) * 1i},
		{[]complex128{1 << 300, 1, -1 << 300}, 0},
		{[]complex128{1 << 300, -1 << 300, 1}, 1},
	} {
		given := slices.Clone(c.l)
		if x := gauge.Sum(given); x != c.want || !slices.Equal(given, c.l) {
			t.Errorf("Sum(%v) = %v, not %v", c.l, x, c.want)
		}
	}
}

// P3.2
func TestTurn(t *testing.T) {
	quarters := []complex128{1 + 2i, -2 + 1i, -1 - 2i, 2 - 1i}
	for k := -9; k <= 9; k++ {
		if x := gauge.Turn(1+2i, k); x != quarters[(k+12)%4] {
			t.Errorf("Turn(1+2i, %d) = %v, not %v", k, x, quarters[(k+12)%4])
		}
	}
	for k, want := range map[int]complex128{math.MaxInt: quarters[3], math.MaxInt - 1: quarters[2], math.MinInt: quarters[0], math.MinInt + 1: quarters[1]} {
		if x := gauge.Turn(1+2i, k); x != want {
			t.Errorf("Turn(1+2i, %d) = %v, not %v", k, x, want)
		}
	}
	if x := gauge.Turn(1<<300-1i, 1); x != 1+1<<300*1i {
		t.Error(x)
	}
	if x := gauge.Turn(0, 3); x != 0 {
		t.Error(x)
	}
}

// rounded is the float64 nearest to a sum of products, each of which is rounded first.
func rounded(x, y float64) float64 {
	square := func(x float64) *big.Float {
		f, _ := new(big.Float).SetPrec(200).Mul(big.NewFloat(x), big.NewFloat(x)).Float64()
		return big.NewFloat(f)
	}
	f, _ := new(big.Float).SetPrec(3000).Add(square(x), square(y)).Float64()
	return f
}

// P3.2
func TestApart(t *testing.T) {
	for _, c := range []struct {
		a, b complex128
		want float64
	}{
		{0, 0, 0},
		{1 + 2i, 1 + 2i, 0},
		{1 + 2i, 4 + 6i, 25},
		{4 + 6i, 1 + 2i, 25},
		{-1, 1, 4},
		{-1i, 1i, 4},
		{3, 4i, 25},
		{1<<53 + 2, 1, 1 << 106}, // The difference is rounded, too.
		{1 << 300, -1 << 300, 0x1p602},
		{1<<300 + 1<<300*1i, -1<<300 - 1<<300*1i, 0x1p603},
	} {
		if x := gauge.Apart(c.a, c.b); x != c.want {
			t.Errorf("Apart(%v, %v) = %v, not %v", c.a, c.b, x, c.want)
		}
	}
	r := rand.New(rand.NewPCG(3, 2))
	for range 20000 {
		x, y := r.Float64()*100-50, r.Float64()*100-50
		if d := gauge.Apart(complex(x, y), 0); d != rounded(x, y) {
			t.Fatalf("Apart(%v + %vi, 0) = %v, not %v", x, y, d, rounded(x, y))
		}
	}
}

// P3.2
func TestNearest(t *testing.T) {
	for _, c := range []struct {
		l    []complex128
		c    complex128
		want int
	}{
		{nil, 2, -1},
		{[]complex128{}, 0, -1},
		{[]complex128{1 << 300}, 0, 0},
		{[]complex128{9, 1, 3, 1}, 2, 1},
		{[]complex128{1, 1, 1}, 1, 0},
		{[]complex128{5, 4, 3, 2, 1}, 0, 4},
		{[]complex128{1, 2, 3}, 0, 0},
		{[]complex128{3 + 4i, 4 + 3i, 5, 4 + 2i}, 0, 3},
		{[]complex128{3 + 4i, 5i, -5, 4 - 3i}, 0, 0},
		{[]complex128{1 + 9i, 9 + 1i, 8 + 2i}, 9i, 0},
		// Nearly as near is as near: what is below the last bit isn't seen.
		{[]complex128{1<<53 + 1i, 1 << 53}, 0, 0},
	} {
		given := slices.Clone(c.l)
		if x := gauge.Nearest(given, c.c); x != c.want || !slices.Equal(given, c.l) {
			t.Errorf("Nearest(%v, %v) = %d, not %d", c.l, c.c, x, c.want)
		}
	}
}

// P1: what nothing is promised of is answered somehow, too.
func TestOdd(t *testing.T) {
	inf, none := math.Inf(1), math.NaN()
	parts := []float64{0, math.Copysign(0, -1), 1, inf, -inf, none, math.MaxFloat64, math.SmallestNonzeroFloat64}
	var l []complex128
	for _, x := range parts {
		for _, y := range parts {
			l = append(l, complex(x, y))
		}
	}
	gauge.Sum(l)
	for _, c := range l {
		for k := -4; k <= 4; k++ {
			gauge.Turn(c, k)
		}
		for _, d := range l {
			gauge.Apart(c, d)
		}
		if i := gauge.Nearest(l, c); i < 0 || i >= len(l) {
			t.Errorf("Nearest of %v: %d", c, i)
		}
	}
}
