package ident_test

import (
	"slices"
	"strings"
	"testing"

	"hygrometer/api"
	"hygrometer/attr"
	"hygrometer/blame"
	"hygrometer/ident"
)

// P19.1
func TestJoin(t *testing.T) {
	long := strings.Repeat("x", 300)
	for i, c := range []struct {
		l []string
		s string
	}{
		{nil, ""}, {[]string{""}, "\x00"}, {[]string{"a", ""}, "\x01a\x00"}, {[]string{"", "a"}, "\x00\x01a"}, {[]string{long, "\xFF"}, "\xAC\x02" + long + "\x01\xFF"},
	} {
		if s := ident.Join(c.l...); s != c.s {
			t.Errorf("case %d: %q", i, s)
		}
		if l, err := ident.Parts(c.s); err != nil || !slices.Equal(l, c.l) {
			t.Errorf("case %d: %q, %v", i, l, err)
		}
	}
}

// P19.1
func TestPartsWrong(t *testing.T) {
	const ten = "\xFF\xFF\xFF\xFF\xFF\xFF\xFF\xFF\xFF\x02"
	for s, code := range map[string]api.Code{
		"\x01": api.ErrShort, "\x80": api.ErrShort, "\x00\x02a": api.ErrShort, "\xFF\xFF\xFF\xFF\xFF\xFF\xFF\xFF\xFF\x01a": api.ErrShort,
		"\x80\x00": api.ErrForm, "\x81\x00a": api.ErrForm, "\x01a\x80\x80\x00\x01b": api.ErrForm,
		ten: api.ErrVarint, "\x01a" + ten: api.ErrVarint,
	} {
		if l, err := ident.Parts(s); l != nil || blame.Code(err) != code {
			t.Errorf("% X: %q, %v", s, l, err)
		}
	}
}

func num(key string, n uint64) api.KeyValue {
	return api.KeyValue{Key: key, Has: true, Value: api.Value{Kind: 3, N: n}}
}

// P19.2
func TestKey(t *testing.T) {
	res, sco, own := []api.KeyValue{num("r", 1), num("a", 2)}, []api.KeyValue{num("s", 3), num("b", 4)}, []api.KeyValue{num("o", 5), num("c", 6)}
	r := api.ResourceMetrics{Has: true, Resource: api.Resource{Attrs: res, Dropped: 7}, Schema: "rs"}
	s := api.ScopeMetrics{Has: true, Scope: api.Scope{Name: "sn", Version: "sv", Attrs: sco}, Schema: "ss"}
	m := api.Metric{Name: "mn", Desc: "md", Unit: "mu", Kind: 2 + 1<<8, Monotonic: true}
	want := []string{attr.Canon(res), "rs", "sn", "sv", attr.Canon(sco), "ss", "mn", "mu", "\x02", "\x01", attr.Canon(own)}
	got, err := ident.Parts(ident.Key(r, s, m, own))
	if err != nil || !slices.Equal(got, want) {
		t.Errorf("%q, %v", got, err)
	}
	slices.Reverse(own)
	slices.Reverse(res)
	if ident.Key(r, s, m, own) != ident.Join(want...) {
		t.Error("the order of attributes counts")
	}
	if res[0].Key != "a" {
		t.Error("what is handed in was changed")
	}
	r.Resource.Dropped, r.Unknown, m.Desc, m.Temporality = 0, "\x20\x00", "", 2
	if ident.Key(r, s, m, own) != ident.Join(want...) {
		t.Error("what is no part counts")
	}
	m.Kind, m.Monotonic = -1, false
	want[8], want[9] = "\xFF", "\x00"
	if ident.Key(r, s, m, own) != ident.Join(want...) {
		t.Error("Kind and Monotonic")
	}
	if key := ident.Key(api.ResourceMetrics{}, api.ScopeMetrics{}, api.Metric{}, nil); key != strings.Repeat("\x00", 8)+"\x01\x00\x01\x00\x00" {
		t.Errorf("of nothing: % X", key)
	}
}

// P19.3
func TestNew(t *testing.T) {
	l, _ := ident.Parts("\x01a\x01b")
	l[0] = "z"
	if again, _ := ident.Parts("\x01a\x01b"); again[0] != "a" {
		t.Error(again)
	}
}
