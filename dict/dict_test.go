package dict_test

import (
	"math"
	"strconv"
	"strings"
	"testing"

	"hygrometer/api"
	"hygrometer/blame"
	"hygrometer/dict"
)

// P23.1
func TestAdd(t *testing.T) {
	d := dict.New()
	if d.Len() != 0 {
		t.Error("a new one is not empty")
	}
	for i, s := range []string{"a", "b", "a", "", "\xFF", "", "b", "c"} {
		if got := d.Add(s); got != []int{0, 1, 0, 2, 3, 2, 1, 4}[i] {
			t.Errorf("%q: %d", s, got)
		}
	}
	for i, s := range []string{"a", "b", "", "\xFF", "c"} {
		if got, ok := d.Get(i); got != s || !ok {
			t.Errorf("number %d: %q, %t", i, got, ok)
		}
	}
	for _, i := range []int{-1, 5, math.MinInt, math.MaxInt} {
		if got, ok := d.Get(i); got != "" || ok {
			t.Errorf("number %d: %q, %t", i, got, ok)
		}
	}
	if d.Len() != 5 {
		t.Error(d.Len())
	}
}

// P23.2, P23.4
func TestThereAndBack(t *testing.T) {
	long := strings.Repeat("x", 128)
	for i, c := range []struct {
		l []string
		s string
	}{
		{nil, "\x00"}, {[]string{""}, "\x01\x00"}, {[]string{"b", "a"}, "\x02\x01b\x01a"}, {[]string{"\xFF", "", long}, "\x03\x01\xFF\x00\x80\x01" + long},
	} {
		d := dict.New()
		for _, s := range c.l {
			d.Add(s)
		}
		if s, err := d.Put(); s != c.s || err != nil {
			t.Errorf("case %d: %q, %v", i, s, err)
		}
		got, err := dict.Read(c.s)
		if err != nil || got.Len() != len(c.l) {
			t.Errorf("case %d: %v", i, err)
			continue
		}
		for j, s := range c.l {
			if text, ok := got.Get(j); text != s || !ok || got.Add(s) != j {
				t.Errorf("case %d: %q", i, text)
			}
		}
		if got.Add("new") != len(c.l) {
			t.Errorf("case %d: a new one", i)
		}
	}
}

// P23.2
func TestWrong(t *testing.T) {
	const ten = "\xFF\xFF\xFF\xFF\xFF\xFF\xFF\xFF\xFF\x02"
	for s, code := range map[string]api.Code{
		"": api.ErrShort, "\x80": api.ErrShort, "\x01": api.ErrShort, "\x01\x01": api.ErrShort, "\x02\x00": api.ErrShort, "\x02\x00\x80": api.ErrShort, "\x01\xFF\xFF\xFF\xFF\xFF\xFF\xFF\xFF\xFF\x01a": api.ErrShort,
		"\x00\x00": api.ErrLong, "\x01\x01ab": api.ErrLong,
		ten: api.ErrVarint, "\x01" + ten: api.ErrVarint,
		"\x02\x01a\x01a": api.ErrForm, "\x80\x00": api.ErrForm, "\x01\x81\x00a": api.ErrForm,
	} {
		if d, err := dict.Read(s); d != nil || blame.Code(err) != code {
			t.Errorf("%q: %v", s, err)
		}
	}
}

// P23.2: the most that may be.
func TestMost(t *testing.T) {
	d := dict.New()
	var b strings.Builder
	for i := range api.MaxItems + 1 {
		s := strconv.Itoa(100000 + i)
		d.Add(s)
		b.WriteString("\x06" + s)
		if i != api.MaxItems-1 {
			continue
		}
		put, err := d.Put()
		if err != nil || put != "\xA0\x9C\x01"+b.String() {
			t.Fatal(err)
		}
		if got, err := dict.Read(put); err != nil || got.Len() != api.MaxItems {
			t.Fatal(err)
		}
	}
	if s, err := d.Put(); s != "" || blame.Code(err) != api.ErrRange || d.Len() != api.MaxItems+1 {
		t.Error(err)
	}
	if d, err := dict.Read("\xA1\x9C\x01" + b.String()); d != nil || blame.Code(err) != api.ErrRange {
		t.Error(err)
	}
}

// P23.3: one Dict does not show what another one is given.
func TestNew(t *testing.T) {
	const s = "\x01\x01a"
	x, _ := dict.Read(s)
	y, _ := dict.Read(s)
	x.Add("b")
	if y.Len() != 1 || y.Add("c") != 1 || x.Len() != 2 {
		t.Error("shared memory")
	}
}
