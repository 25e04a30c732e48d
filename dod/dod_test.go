package dod_test

import (
	"math"
	"slices"
	"strings"
	"testing"

	"hygrometer/api"
	"hygrometer/blame"
	"hygrometer/dod"
)

// P20.1, P20.3
func TestThereAndBack(t *testing.T) {
	for i, c := range []struct {
		l []uint64
		s string
	}{
		{nil, ""}, {[]uint64{0}, "\x00"}, {[]uint64{300}, "\xAC\x02"}, {[]uint64{10, 20, 30}, "\x0A\x14\x00"}, {[]uint64{10, 5, 0, 1}, "\x0A\x09\x00\x0C"},
		{[]uint64{1 << 63}, "\x80\x80\x80\x80\x80\x80\x80\x80\x80\x01"}, {[]uint64{math.MaxUint64, 0}, "\xFF\xFF\xFF\xFF\xFF\xFF\xFF\xFF\xFF\x01\x02"}, {[]uint64{0, math.MaxUint64, 0}, "\x00\x01\x04"},
		{[]uint64{0, 1 << 63, 0}, "\x00\xFF\xFF\xFF\xFF\xFF\xFF\xFF\xFF\xFF\x01\x00"},
	} {
		s, err := dod.Put(c.l)
		if s != c.s || err != nil {
			t.Errorf("case %d: % X, %v", i, s, err)
		}
		l, err := dod.Get(c.s, len(c.l))
		if err != nil || !slices.Equal(l, c.l) {
			t.Errorf("case %d: %v, %v", i, l, err)
		}
	}
}

// P20.1
func TestWrong(t *testing.T) {
	const ten = "\xFF\xFF\xFF\xFF\xFF\xFF\xFF\xFF\xFF\x02"
	for i, c := range []struct {
		s     string
		count int
		code  api.Code
	}{
		{"", -1, api.ErrRange}, {"", math.MinInt, api.ErrRange}, {"", 20001, api.ErrRange}, {"", math.MaxInt, api.ErrRange},
		{"", 1, api.ErrShort}, {"\x01\x80", 2, api.ErrShort}, {"\x00", 20000, api.ErrShort},
		{"\x01", 0, api.ErrLong}, {"\x01\x02\x03", 2, api.ErrLong},
		{ten, 1, api.ErrVarint},
		{"\x80\x00", 1, api.ErrForm}, {"\x01\x82\x00", 2, api.ErrForm}, {"\x80\x80\x00\x01", 2, api.ErrForm},
	} {
		if l, err := dod.Get(c.s, c.count); l != nil || blame.Code(err) != c.code {
			t.Errorf("case %d: %v, %v", i, l, err)
		}
	}
}

// P20.1: the most that may be.
func TestMost(t *testing.T) {
	l := make([]uint64, api.MaxItems)
	s, err := dod.Put(l)
	if err != nil || s != strings.Repeat("\x00", api.MaxItems) {
		t.Error(err)
	}
	if got, err := dod.Get(s, len(l)); err != nil || !slices.Equal(got, l) {
		t.Error(err)
	}
	if s, err := dod.Put(append(l, 0)); s != "" || blame.Code(err) != api.ErrRange {
		t.Error(err)
	}
}

// P20.2
func TestNew(t *testing.T) {
	l := append(make([]uint64, 0, 5), 1, 2, 3)
	_, _ = dod.Put(l[:2])
	got, _ := dod.Get("\x01\x02", 2)
	got[0] = 9
	if again, _ := dod.Get("\x01\x02", 2); again[0] != 1 || !slices.Equal(l, []uint64{1, 2, 3}) {
		t.Error("shared memory")
	}
}
