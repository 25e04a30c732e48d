package varint_test

import (
	"math"
	"strings"
	"testing"

	"hygrometer/api"
	"hygrometer/blame"
	"hygrometer/varint"
)

// P2.1, P2.3
func TestPut(t *testing.T) {
	for _, c := range []struct {
		n uint64
		s string
	}{
		{0, "\x00"}, {1, "\x01"}, {127, "\x7F"}, {128, "\x80\x01"}, {300, "\xAC\x02"}, {16383, "\xFF\x7F"}, {16384, "\x80\x80\x01"},
		{1<<63 - 1, "\xFF\xFF\xFF\xFF\xFF\xFF\xFF\xFF\x7F"}, {1 << 63, "\x80\x80\x80\x80\x80\x80\x80\x80\x80\x01"},
		{math.MaxUint64, "\xFF\xFF\xFF\xFF\xFF\xFF\xFF\xFF\xFF\x01"},
	} {
		if s := varint.Put(c.n); s != c.s || varint.Size(c.n) != len(c.s) {
			t.Errorf("Put(%d) = % X, Size %d", c.n, s, varint.Size(c.n))
		}
		n, end, err := varint.Get("ab"+c.s+"\xFF", 2)
		if n != c.n || end != 2+len(c.s) || err != nil {
			t.Errorf("Get of Put(%d) = %d, %d, %v", c.n, n, end, err)
		}
	}
	for i := range 64 {
		for _, n := range []uint64{1 << i, 1<<i - 1, 1<<i + 1, ^(1 << i)} {
			s := varint.Put(n)
			got, end, err := varint.Get(s, 0)
			if got != n || end != len(s) || err != nil || varint.Size(n) != len(s) {
				t.Errorf("%d: %d, %d, %v, Size %d", n, got, end, err, varint.Size(n))
			}
		}
	}
}

// P2.1
func TestGetWrong(t *testing.T) {
	nine := strings.Repeat("\x80", 9)
	for i, c := range []struct {
		s    string
		at   int
		code api.Code
	}{
		{"", 0, api.ErrShort}, {"a", 1, api.ErrShort}, {"a", 2, api.ErrRange}, {"a", -1, api.ErrRange}, {"a", math.MinInt, api.ErrRange}, {"a", math.MaxInt, api.ErrRange},
		{"\x80", 0, api.ErrShort}, {nine, 0, api.ErrShort}, {nine + "\x80", 0, api.ErrVarint}, {nine + "\x02", 0, api.ErrVarint}, {nine + "\x80\x00", 0, api.ErrVarint},
		{"a" + nine + "\x7F", 1, api.ErrVarint}, {"a" + nine, 1, api.ErrShort},
	} {
		n, end, err := varint.Get(c.s, c.at)
		at, has := blame.Place(err)
		if n != 0 || end != 0 || blame.Code(err) != c.code || !has || at != c.at {
			t.Errorf("case %d: %d, %d, %v", i, n, end, err)
		}
	}
}

// P2.1: zeros behind a number are no error.
func TestGetLong(t *testing.T) {
	for _, s := range []string{"\x80\x00", "\x80\x80\x80\x80\x80\x80\x80\x80\x80\x00"} {
		n, end, err := varint.Get(s, 0)
		if n != 0 || end != len(s) || err != nil {
			t.Errorf("% X: %d, %d, %v", s, n, end, err)
		}
	}
}

// P2.2
func TestZig(t *testing.T) {
	for _, c := range []struct {
		n int64
		z uint64
	}{{0, 0}, {-1, 1}, {1, 2}, {-2, 3}, {2, 4}, {math.MaxInt64, math.MaxUint64 - 1}, {math.MinInt64, math.MaxUint64}} {
		if varint.Zig(c.n) != c.z || varint.Zag(c.z) != c.n {
			t.Errorf("%d: %d, back %d", c.n, varint.Zig(c.n), varint.Zag(c.z))
		}
	}
	for _, c := range []struct {
		n int32
		z uint64
	}{{0, 0}, {-1, 1}, {1, 2}, {-2, 3}, {2, 4}, {math.MaxInt32, math.MaxUint32 - 1}, {math.MinInt32, math.MaxUint32}} {
		if varint.Zig32(c.n) != c.z || varint.Zag32(c.z) != c.n || varint.Zag32(c.z|0xABCDEF<<32) != c.n {
			t.Errorf("%d: %d, back %d", c.n, varint.Zig32(c.n), varint.Zag32(c.z))
		}
	}
}
