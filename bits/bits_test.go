package bits_test

import (
	"math"
	mathbits "math/bits"
	"math/rand"
	"testing"

	"hygrometer/api"
	"hygrometer/bits"
	"hygrometer/blame"
)

// P5.1
func TestPut(t *testing.T) {
	var w bits.Writer
	if w.Len() != 0 || w.String() != "" {
		t.Error("a zero Writer is not empty")
	}
	for i, c := range []struct {
		n     uint64
		count int
		text  string
	}{
		{5, 3, "\xA0"}, {0, 0, "\xA0"}, {3, 2, "\xB8"}, {0x1FF, 9, "\xBF\xFC"}, {1, 2, "\xBF\xFD"}, {math.MaxUint64, 64, "\xBF\xFD\xFF\xFF\xFF\xFF\xFF\xFF\xFF\xFF"}, {0, 1, "\xBF\xFD\xFF\xFF\xFF\xFF\xFF\xFF\xFF\xFF\x00"},
	} {
		before := w.Len()
		if err := w.Put(c.n, c.count); err != nil || w.Len() != before+c.count || w.String() != c.text {
			t.Errorf("case %d: %v, %d, % X", i, err, w.Len(), w.String())
		}
	}
	for _, c := range []struct {
		n     uint64
		count int
	}{{0, -1}, {0, 65}, {1, 0}, {2, 1}, {1 << 63, 63}, {math.MaxUint64, 63}, {0, math.MinInt}, {0, math.MaxInt}} {
		before, text := w.Len(), w.String()
		if err := w.Put(c.n, c.count); blame.Code(err) != api.ErrRange || w.Len() != before || w.String() != text {
			t.Errorf("Put(%d, %d): %v, %d", c.n, c.count, err, w.Len())
		}
	}
}

// P5.2, P5.4
func TestThereAndBack(t *testing.T) {
	rnd := rand.New(rand.NewSource(5))
	for range 300 {
		var w bits.Writer
		var ns []uint64
		var counts []int
		for range rnd.Intn(30) {
			count := rnd.Intn(65)
			n := rnd.Uint64()
			if count < 64 {
				n &= 1<<count - 1
			}
			ns, counts = append(ns, n), append(counts, count)
			if err := w.Put(n, count); err != nil {
				t.Fatal(err)
			}
		}
		r, at := bits.NewReader(w.String()), 0
		for i, n := range ns {
			got, err := r.Get(counts[i])
			at += counts[i]
			if got != n || err != nil || r.At() != at {
				t.Fatalf("%d bits: %d, not %d; at %d; %v", counts[i], got, n, r.At(), err)
			}
		}
		if r.End() != nil || r.At() != w.Len() || len(w.String()) != (w.Len()+7)/8 {
			t.Fatal("the end:", r.End(), r.At(), w.Len())
		}
	}
}

// P5.2
func TestGetWrong(t *testing.T) {
	r := bits.NewReader("\xA5\x0F")
	if n, err := r.Get(5); n != 0x14 || err != nil {
		t.Error(n, err)
	}
	for count, code := range map[int]api.Code{-1: api.ErrRange, 65: api.ErrRange, math.MinInt: api.ErrRange, math.MaxInt: api.ErrRange, 12: api.ErrShort, 64: api.ErrShort} {
		n, err := r.Get(count)
		at, has := blame.Place(err)
		if n != 0 || blame.Code(err) != code || !has || at != 5 || r.At() != 5 {
			t.Errorf("Get(%d): %d, %v, at %d", count, n, err, r.At())
		}
	}
	if n, err := r.Get(11); n != 0x50F || err != nil || r.At() != 16 || r.End() != nil {
		t.Error(n, err, r.At())
	}
	if n, err := r.Get(0); n != 0 || err != nil {
		t.Error("no bits at the end:", n, err)
	}
	if _, err := r.Get(1); blame.Code(err) != api.ErrShort {
		t.Error(err)
	}
}

// P5.2
func TestEnd(t *testing.T) {
	for i, c := range []struct {
		s    string
		read int
		code api.Code
	}{
		{"", 0, api.OK}, {"\x00", 0, api.ErrLong}, {"\x80", 1, api.OK}, {"\x80", 0, api.ErrLong}, {"\x81", 1, api.ErrForm}, {"\x40", 1, api.ErrForm}, {"\xFF\x00", 8, api.ErrLong}, {"\xFF\x01", 7, api.ErrLong}, {"\xFF\x01", 9, api.ErrForm}, {"\xFF\x01", 16, api.OK},
	} {
		r := bits.NewReader(c.s)
		_, _ = r.Get(c.read)
		err := r.End()
		at, has := blame.Place(err)
		if blame.Code(err) != c.code || r.At() != c.read || has != (c.code != api.OK) || has && at != c.read {
			t.Errorf("case %d: %v, at %d", i, err, r.At())
		}
	}
}

// P5.3
func TestZeros(t *testing.T) {
	check := func(n uint64) {
		if bits.Lead(n) != mathbits.LeadingZeros64(n) || bits.Trail(n) != mathbits.TrailingZeros64(n) {
			t.Errorf("%X: %d, %d", n, bits.Lead(n), bits.Trail(n))
		}
	}
	check(0)
	check(math.MaxUint64)
	for i := range 64 {
		check(1 << i)
		check(1<<i | 1<<(i/2))
		check(^(uint64(1) << i))
	}
}
