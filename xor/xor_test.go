package xor_test

import (
	"math"
	"math/rand"
	"slices"
	"strings"
	"testing"

	"hygrometer/api"
	"hygrometer/bits"
	"hygrometer/blame"
	"hygrometer/xor"
)

const eight = "\x00\x00\x00\x00\x00\x00\x00\x05"

// P21.1, P21.3
func TestThereAndBack(t *testing.T) {
	for i, c := range []struct {
		l []uint64
		s string
	}{
		{nil, ""}, {[]uint64{5}, eight}, {[]uint64{5, 5}, eight + "\x00"}, {[]uint64{5, 5, 5, 5, 5, 5, 5, 5, 5}, eight + "\x00"}, {[]uint64{5, 5, 5, 5, 5, 5, 5, 5, 5, 5}, eight + "\x00\x00"},
		{[]uint64{5, 4}, eight + "\xFE\x04"},            // 1, 111111, 000000, 1
		{[]uint64{5, 5 ^ 6<<61}, eight + "\x80\x0E"},    // 1, 000000, 000001, 11
		{[]uint64{5, 5, 5 ^ 1<<62}, eight + "\x41\x02"}, // 0, 1, 000001, 000000, 1
		{[]uint64{5, 5 ^ 1<<63 ^ 1}, eight + "\x81\xFC\x00\x00\x00\x00\x00\x00\x00\x08"},
	} {
		s, err := xor.Put(c.l)
		if s != c.s || err != nil {
			t.Errorf("case %d: % X, %v", i, s, err)
		}
		l, err := xor.Get(c.s, len(c.l))
		if err != nil || !slices.Equal(l, c.l) {
			t.Errorf("case %d: %v, %v", i, l, err)
		}
	}
	rnd := rand.New(rand.NewSource(21))
	for range 500 {
		l := make([]uint64, rnd.Intn(20))
		for i := range l {
			l[i] = rnd.Uint64() >> rnd.Intn(64) << rnd.Intn(64)
		}
		s, err := xor.Put(l)
		if err != nil {
			t.Fatal(err)
		}
		if got, err := xor.Get(s, len(l)); err != nil || !slices.Equal(got, l) {
			t.Fatal(l, got, err)
		}
		// Any other text is another list's, or none's.
		for range 20 {
			b := []byte(s + "x")
			b[rnd.Intn(len(b))] ^= 1 << rnd.Intn(8)
			got, err := xor.Get(string(b[:len(s)]), len(l))
			if again, _ := xor.Put(got); err == nil && again != string(b[:len(s)]) {
				t.Fatalf("% X is also % X", b, again)
			}
		}
	}
}

// text is bits, as a text, told by numbers and counts.
func text(l ...uint64) string {
	var w bits.Writer
	for i := 0; i < len(l); i += 2 {
		if w.Put(l[i], int(l[i+1])) != nil {
			panic("no bits")
		}
	}
	return w.String()
}

// P21.1
func TestWrong(t *testing.T) {
	for i, c := range []struct {
		s     string
		count int
		code  api.Code
	}{
		{"", -1, api.ErrRange}, {"", math.MinInt, api.ErrRange}, {"", 20001, api.ErrRange}, {"", math.MaxInt, api.ErrRange},
		{"", 1, api.ErrShort}, {eight[:7], 1, api.ErrShort}, {eight, 2, api.ErrShort}, {eight + "\x00", 10, api.ErrShort}, {eight + "\x80", 2, api.ErrShort}, {eight + "\x80\x78", 2, api.ErrShort}, {text(0, 64, 1, 1, 0, 6, 63, 6, 1, 1), 2, api.ErrShort},
		{"\x00", 0, api.ErrLong}, {eight, 0, api.ErrLong}, {eight + "\x00", 1, api.ErrLong}, {eight + "\x00\x00", 2, api.ErrLong}, {text(0, 64, 1, 1, 0, 6, 0, 6, 0, 1, 0, 8), 2, api.ErrLong},
		{eight + "\x01", 2, api.ErrForm}, {eight + "\x40", 2, api.ErrForm},
		{text(0, 64, 1, 1, 3, 6, 1, 6, 2, 2), 2, api.ErrForm}, {text(0, 64, 1, 1, 3, 6, 1, 6, 1, 2), 2, api.ErrForm}, {text(0, 64, 1, 1, 3, 6, 0, 6, 0, 1), 2, api.ErrForm}, {text(0, 64, 1, 1, 63, 6, 1, 6, 3, 2), 2, api.ErrForm}, {text(0, 64, 1, 1, 1, 6, 63, 6, 1<<63|1, 64), 2, api.ErrForm},
	} {
		if l, err := xor.Get(c.s, c.count); l != nil || blame.Code(err) != c.code {
			t.Errorf("case %d: %v, %v", i, l, err)
		}
	}
}

// P21.1: the most that may be.
func TestMost(t *testing.T) {
	l := make([]uint64, api.MaxItems)
	s, err := xor.Put(l)
	if err != nil || s != strings.Repeat("\x00", 8+(api.MaxItems-1+7)/8) {
		t.Error(err, len(s))
	}
	if got, err := xor.Get(s, len(l)); err != nil || !slices.Equal(got, l) {
		t.Error(err)
	}
	if s, err := xor.Put(append(l, 0)); s != "" || blame.Code(err) != api.ErrRange {
		t.Error(err)
	}
}

// P21.2
func TestNew(t *testing.T) {
	l := append(make([]uint64, 0, 5), 1, 2, 3)
	_, _ = xor.Put(l[:2])
	got, _ := xor.Get(eight, 1)
	got[0] = 9
	if again, _ := xor.Get(eight, 1); again[0] != 5 || !slices.Equal(l, []uint64{1, 2, 3}) {
		t.Error("shared memory")
	}
}
