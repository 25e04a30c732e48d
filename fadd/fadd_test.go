package fadd_test

import (
	"math"
	"math/rand"
	"testing"

	"hygrometer/fadd"
)

var edges = []uint64{0, 1, 2, 3, 1<<52 - 1, 1 << 52, 1<<52 + 1, 2 << 52, 3<<52 - 1, 0x3FE0000000000000, 0x3FEFFFFFFFFFFFFF, 0x3FF0000000000000, 0x3FF0000000000001, 0x3FF0000000000002, 0x3CA0000000000000, 0x3CB0000000000000, 0x3C9FFFFFFFFFFFFF, 0x3CA0000000000001,
	0x4340000000000000, 0x4340000000000001, 0x7FE0000000000000, 0x7FEFFFFFFFFFFFFF, 0x7FEFFFFFFFFFFFFE, 0x7C90000000000000, 0x7C8FFFFFFFFFFFFF, 0x7C80000000000000, 0x7FF0000000000000, 0x7FF0000000000001, 0x7FF4000000000005, 0x7FF8000000000000, 0x7FFFFFFFFFFFFFFF}

// want is the sum by the machine's doubles, and by hand of NaNs.
func want(a, b uint64) uint64 {
	x, y := math.Float64frombits(a), math.Float64frombits(b)
	switch {
	case x != x:
		return a | 1<<51
	case y != y:
		return b | 1<<51
	case math.IsInf(x, 0) && math.IsInf(y, 0) && a != b:
		return 0x7FF8000000000000
	}
	return math.Float64bits(x + y)
}

func compare(t *testing.T, a, b uint64) {
	t.Helper()
	if got := fadd.Add(a, b); got != want(a, b) {
		t.Fatalf("Add(%X, %X) = %X, not %X", a, b, got, want(a, b))
	}
	less := b ^ 1<<63
	if y := math.Float64frombits(b); y != y {
		less = b
	}
	if got := fadd.Sub(a, b); got != want(a, less) {
		t.Fatalf("Sub(%X, %X) = %X, not %X", a, b, got, want(a, less))
	}
}

// P7.1, P7.2
func TestEdges(t *testing.T) {
	for _, a := range edges {
		for _, b := range edges {
			for s := range uint64(4) {
				compare(t, a|s<<63, b|s>>1<<63)
			}
		}
	}
}

// P7.1: doubles of all sizes, most of them near one another.
func TestMany(t *testing.T) {
	rnd := rand.New(rand.NewSource(7))
	for range 400000 {
		a := rnd.Uint64()
		exp := a>>52&0x7FF + uint64(rnd.Intn(120)) - 60
		b := rnd.Uint64()&^(0x7FF<<52) | exp&0x7FF<<52
		if rnd.Intn(3) == 0 {
			b &= ^uint64(0) << rnd.Intn(53)
		}
		if rnd.Intn(3) == 0 {
			a &= ^uint64(0) << rnd.Intn(53)
		}
		compare(t, a, b)
		compare(t, a, a^uint64(rnd.Intn(4))^1<<63)
		compare(t, a&(1<<55-1), b&(1<<55-1)|1<<63)
	}
}

// P7.1
func TestSum(t *testing.T) {
	f := math.Float64bits
	if fadd.Sum() != 0 || fadd.Sum(1<<63) != 0 || fadd.Sum(1<<63, 1<<63) != 0 {
		t.Error("a sum begins with 0")
	}
	if fadd.Sum(f(1), f(0x1p53), f(1), f(1)) != f(0x1p53) || fadd.Sum(f(1), f(1), f(0x1p53)) != f(0x1p53+2) {
		t.Error("from the front")
	}
	if fadd.Sum(f(1), 0xFFF0000000000009) != 0xFFF8000000000009 || fadd.Sum(0x7FF0000000000001, 0x7FF0000000000002) != 0x7FF8000000000001 {
		t.Error("of NaNs")
	}
	if fadd.Quiet(0) != 1<<51 || fadd.Quiet(0x7FF0000000000001) != 0x7FF8000000000001 || fadd.Quiet(fadd.Nan) != fadd.Nan {
		t.Error("Quiet")
	}
	if fadd.Nan != 0x7FF8000000000000 {
		t.Error("Nan")
	}
}
