package runs_test

import (
	"math"
	"slices"
	"testing"

	"hygrometer/api"
	"hygrometer/blame"
	"hygrometer/runs"
)

// P22.1, P22.4
func TestThereAndBack(t *testing.T) {
	for i, c := range []struct {
		l []uint64
		s string
	}{
		{nil, ""}, {[]uint64{0}, "\x00\x00"}, {[]uint64{7, 7, 7}, "\x07\x02"}, {[]uint64{1, 2, 2, 1}, "\x01\x00\x02\x01\x01\x00"}, {[]uint64{300, 300}, "\xAC\x02\x01"}, {[]uint64{math.MaxUint64}, "\xFF\xFF\xFF\xFF\xFF\xFF\xFF\xFF\xFF\x01\x00"},
		{make([]uint64, 129), "\x00\x80\x01"},
	} {
		s, err := runs.Put(c.l)
		if s != c.s || err != nil {
			t.Errorf("case %d: % X, %v", i, s, err)
		}
		l, err := runs.Get(c.s, len(c.l))
		if err != nil || !slices.Equal(l, c.l) {
			t.Errorf("case %d: %v, %v", i, l, err)
		}
	}
}

// P22.1
func TestWrong(t *testing.T) {
	const ten = "\xFF\xFF\xFF\xFF\xFF\xFF\xFF\xFF\xFF\x02"
	for i, c := range []struct {
		s     string
		count int
		code  api.Code
	}{
		{"", -1, api.ErrRange}, {"", math.MinInt, api.ErrRange}, {"\x00\xA0\x9C\x01", 20001, api.ErrRange}, {"", math.MaxInt, api.ErrRange},
		{"", 1, api.ErrShort}, {"\x07", 1, api.ErrShort}, {"\x07\x01", 3, api.ErrShort}, {"\x07\x80", 1, api.ErrShort},
		{"\x07\x00", 0, api.ErrLong}, {"\x07\x00\x08\x00", 1, api.ErrLong},
		{ten, 1, api.ErrVarint}, {"\x01" + ten, 1, api.ErrVarint},
		{"\x07\x00\x07\x00", 2, api.ErrForm}, {"\x87\x00\x01", 2, api.ErrForm}, {"\x07\x81\x00", 2, api.ErrForm},
	} {
		if l, err := runs.Get(c.s, c.count); l != nil || blame.Code(err) != c.code {
			t.Errorf("case %d: %v, %v", i, l, err)
		}
	}
}

// P22.1: a run that is longer than it may be.
func TestLongRun(t *testing.T) {
	for s, count := range map[string]int{"\x07\x01": 1, "\x07\x00\x08\x05": 3, "\x07\xFF\xFF\xFF\xFF\xFF\xFF\xFF\xFF\xFF\x01": 5, "\x07\xFF\xFF\xFF\xFF\xFF\xFF\xFF\xFF\x7F": 5} {
		l, err := runs.Get(s, count)
		if code := blame.Code(err); l != nil || code != api.ErrLong && code != api.ErrForm {
			t.Errorf("% X: %v, %v", s, l, err)
		}
	}
}

// P22.1: the most that may be.
func TestMost(t *testing.T) {
	l := make([]uint64, api.MaxItems)
	s, err := runs.Put(l)
	if err != nil || s != "\x00\x9F\x9C\x01" {
		t.Errorf("% X, %v", s, err)
	}
	if got, err := runs.Get(s, len(l)); err != nil || !slices.Equal(got, l) {
		t.Error(err)
	}
	if s, err := runs.Put(append(l, 0)); s != "" || blame.Code(err) != api.ErrRange {
		t.Error(err)
	}
}

// P22.2, P22.4
func TestDelta(t *testing.T) {
	for i, c := range []struct{ l, d []uint64 }{
		{nil, nil}, {[]uint64{5}, []uint64{10}}, {[]uint64{3, 1, 1, 2}, []uint64{6, 3, 0, 2}}, {[]uint64{math.MaxUint64, 0, 1 << 63}, []uint64{1, 2, math.MaxUint64}},
	} {
		if got := runs.Delta(c.l); !slices.Equal(got, c.d) {
			t.Errorf("case %d: %v", i, got)
		}
		if got := runs.Undelta(c.d); !slices.Equal(got, c.l) {
			t.Errorf("case %d: %v", i, got)
		}
	}
	long := make([]uint64, 30000)
	if len(runs.Delta(long)) != 30000 || len(runs.Undelta(long)) != 30000 {
		t.Error("of many")
	}
}

// P22.3
func TestNew(t *testing.T) {
	l := append(make([]uint64, 0, 5), 1, 2, 3)
	d := runs.Delta(l[:2])
	u := runs.Undelta(l[:2])
	d[0], u[0] = 9, 9
	_, _ = append(d, 9), append(u, 9)
	if !slices.Equal(l, []uint64{1, 2, 3}) {
		t.Error("shared memory:", l)
	}
	got, _ := runs.Get("\x01\x01", 2)
	got[0] = 9
	if again, _ := runs.Get("\x01\x01", 2); again[0] != 1 {
		t.Error("shared memory")
	}
}
