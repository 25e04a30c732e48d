package flt_test

import (
	"math"
	"math/rand"
	"slices"
	"testing"

	"hygrometer/flt"
)

// rising are doubles in the total order, each once.
func rising() []uint64 {
	up := []uint64{0, 1, 2, 1<<52 - 1, 1 << 52, 1<<52 + 1, 0x3FEFFFFFFFFFFFFF, 0x3FF0000000000000, 0x3FF0000000000001, 0x4340000000000000, 0x43E0000000000000, 0x7FEFFFFFFFFFFFFF,
		0x7FF0000000000000, 0x7FF0000000000001, 0x7FF7FFFFFFFFFFFF, 0x7FF8000000000000, 0x7FFFFFFFFFFFFFFF}
	var l []uint64
	for _, x := range up {
		l = append(l, x|1<<63)
	}
	slices.Reverse(l)
	return append(l, up...)
}

// P6.1
func TestClass(t *testing.T) {
	if [...]int{flt.Zero, flt.Sub, flt.Normal, flt.Inf, flt.NaN} != [...]int{0, 1, 2, 3, 4} {
		t.Error("the constants")
	}
	for x, class := range map[uint64]int{
		0: flt.Zero, 1: flt.Sub, 1<<52 - 1: flt.Sub, 1 << 52: flt.Normal, 0x3FF0000000000000: flt.Normal, 0x7FEFFFFFFFFFFFFF: flt.Normal,
		0x7FF0000000000000: flt.Inf, 0x7FF0000000000001: flt.NaN, 0x7FF8000000000000: flt.NaN, 0x7FFFFFFFFFFFFFFF: flt.NaN,
	} {
		if flt.Class(x) != class || flt.Class(x|1<<63) != class {
			t.Errorf("%X: %d, %d", x, flt.Class(x), flt.Class(x|1<<63))
		}
		if flt.Neg(x) != x|1<<63 || flt.Neg(x|1<<63) != x {
			t.Errorf("Neg of %X: %X", x, flt.Neg(x))
		}
	}
}

// P6.1, P6.3, P6.4
func TestCompared(t *testing.T) {
	l := rising()
	for i, a := range l {
		for j, b := range l {
			x, y := math.Float64frombits(a), math.Float64frombits(b)
			if flt.Less(a, b) != (x < y) || flt.Equal(a, b) != (x == y) {
				t.Errorf("%X, %X: Less %t, Equal %t", a, b, flt.Less(a, b), flt.Equal(a, b))
			}
			want := 0
			if i < j {
				want = -1
			} else if i > j {
				want = 1
			}
			if flt.Order(a, b) != want {
				t.Errorf("Order of %X, %X: %d", a, b, flt.Order(a, b))
			}
			least, most := a, a
			if y < x || x != x && y == y {
				least = b
			}
			if x < y || x != x && y == y {
				most = b
			}
			if flt.Min(a, b) != least || flt.Max(a, b) != most {
				t.Errorf("%X, %X: Min %X, Max %X", a, b, flt.Min(a, b), flt.Max(a, b))
			}
		}
	}
}

// P6.2
func TestFromInt(t *testing.T) {
	check := func(n int64) {
		if got, want := flt.FromInt(n), math.Float64bits(float64(n)); got != want {
			t.Errorf("%d: %X, not %X", n, got, want)
		}
	}
	rnd := rand.New(rand.NewSource(6))
	for i := range 64 {
		for d := int64(-5); d <= 5; d++ {
			check(1<<i + d)
			check(-1<<i + d)
			check(3<<i + d<<(i/2))
		}
		for range 50 {
			check(int64(rnd.Uint64()) >> i)
		}
	}
	for _, n := range []int64{0, math.MaxInt64, math.MinInt64, 1<<53 + 1, 1<<53 + 3, 1<<54 - 1, 1<<54 + 2, 1<<54 + 6} {
		check(n)
		check(-n)
	}
}

// P6.2, P6.4
func TestToInt(t *testing.T) {
	rnd := rand.New(rand.NewSource(7))
	for i := range 54 {
		for _, n := range []int64{1 << i, 1<<i - 1, 1<<i | 1<<(i/2), rnd.Int63() >> 10 >> i} {
			for _, n := range []int64{n, -n} {
				if got, ok := flt.ToInt(flt.FromInt(n)); got != n || !ok {
					t.Errorf("%d: %d, %t", n, got, ok)
				}
			}
		}
	}
	for f, n := range map[float64]int64{0x1p62: 1 << 62, -0x1p63: math.MinInt64, 0x1.fffffffffffffp62: 0x7FFFFFFFFFFFFC00, -0x1.fffffffffffffp62: -0x7FFFFFFFFFFFFC00, 0x1.8p53: 3 << 52} {
		if got, ok := flt.ToInt(math.Float64bits(f)); got != n || !ok {
			t.Errorf("%g: %d, %t", f, got, ok)
		}
	}
	for _, f := range []float64{0.5, -0.5, 1.5, 0x1.fffffffffffffp51, 0x1p63, -0x1.0000000000001p63, 1e300, -1e300, math.SmallestNonzeroFloat64, 0x1p-1022, math.Inf(1), math.Inf(-1), math.NaN()} {
		if n, ok := flt.ToInt(math.Float64bits(f)); n != 0 || ok {
			t.Errorf("%g: %d, %t", f, n, ok)
		}
	}
}
