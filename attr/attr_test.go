package attr_test

import (
	"testing"

	"hygrometer/api"
	"hygrometer/attr"
	"hygrometer/blame"
	"hygrometer/value"
)

func num(key string, n uint64) api.KeyValue {
	return api.KeyValue{Key: key, Has: true, Value: api.Value{Kind: 3, N: n}}
}

// nest is an attribute that may be at a depth of 2n+1 and not below.
func nest(n int) api.KeyValue {
	x := api.Value{Kind: 3, N: 1}
	for range n {
		x = api.Value{Kind: 5, L: []api.Value{x}}
	}
	return api.KeyValue{Key: "deep", Has: true, Value: x}
}

// P9.1
func TestSort(t *testing.T) {
	l := []api.KeyValue{num("b", 1), num("", 2), num("a\x00", 3), num("b", 4), num("\xFF", 5), num("a", 6), num("B", 7), num("b", 0)}
	got := attr.Sort(l)
	for i, n := range []uint64{2, 7, 6, 3, 1, 4, 0, 5} {
		if got[i].Value.N != n {
			t.Errorf("number %d: %v", i, got[i])
		}
	}
	if len(got) != len(l) || l[0].Value.N != 1 || len(attr.Sort(nil)) != 0 {
		t.Error("the list itself")
	}
}

// P9.1
func TestTwiceFind(t *testing.T) {
	l := []api.KeyValue{{Key: "a"}, num("b", 1), num("a", 2), num("a", 3)}
	if !attr.Twice(l) || attr.Twice(l[:2]) || attr.Twice(nil) || !attr.Twice(make([]api.KeyValue, 2)) || attr.Twice(l[1:3]) {
		t.Error("Twice")
	}
	if x, ok := attr.Find(l, "a"); !ok || x.N != 2 || x.Kind != 3 {
		t.Error("the first that Has one:", x, ok)
	}
	for _, key := range []string{"", "c", "A"} {
		if x, ok := attr.Find(l, key); ok || !value.Same(x, api.Value{}) {
			t.Error("Find", key, x, ok)
		}
	}
	if x, ok := attr.Find([]api.KeyValue{{Key: "z", Value: api.Value{Kind: 3, N: 1}}}, "z"); ok || !value.Same(x, api.Value{}) {
		t.Error("of one without:", x, ok)
	}
}

// P9.2, P9.4
func TestPack(t *testing.T) {
	l := []api.KeyValue{num("b", 1), {}, num("a", 300)}
	const s = "\x0A\x07\x0A\x01b\x12\x02\x18\x01\x0A\x00\x0A\x08\x0A\x01a\x12\x03\x18\xAC\x02"
	if got := attr.Pack(l); got != s {
		t.Errorf("% X", got)
	}
	got, err := attr.Unpack(s, 1)
	if err != nil || !value.SameKeys(got, l) {
		t.Error(got, err)
	}
	if got := attr.Pack([]api.KeyValue{{Key: "\xFF"}, {}, {Value: api.Value{Kind: 1}}, nest(16), nest(15)}); got != "\x0A\x00"+attr.Pack([]api.KeyValue{nest(15)}) || len(got) < 30 {
		t.Errorf("what may not be is written: % X", got)
	}
	if attr.Pack(nil) != "" {
		t.Error("Pack of none")
	}
	if l, err := attr.Unpack("", -1); len(l) != 0 || err != nil {
		t.Error("Unpack of nothing:", l, err)
	}
	if attr.Canon([]api.KeyValue{num("b", 1), num("a", 2), num("b", 3)}) != attr.Pack([]api.KeyValue{num("a", 2), num("b", 1), num("b", 3)}) {
		t.Error("Canon")
	}
}

// P9.2
func TestUnpackWrong(t *testing.T) {
	for i, c := range []struct {
		s     string
		depth int
		code  api.Code
	}{
		{"\x0A", 5, api.ErrShort}, {"\x0A\x02\x0A", 5, api.ErrShort}, {"\x0A\x01\x0A", 5, api.ErrShort}, {"\x0A\x03\x0A\x01\xFF", 5, api.ErrUTF8}, {"\x0A\x00", -1, api.ErrDepth}, {"\x0A\x02\x12\x00", 0, api.ErrDepth},
		{"\x12\x00", 5, api.ErrForm}, {"\x08\x01", 5, api.ErrForm}, {"\x0B\x0C", 5, api.ErrForm}, {"\x00", 5, api.ErrForm}, {"\x08\xFF\xFF\xFF\xFF\xFF\xFF\xFF\xFF\xFF\x02", 5, api.ErrVarint},
	} {
		l, err := attr.Unpack(c.s, c.depth)
		if at, has := blame.Place(err); l != nil || blame.Code(err) != c.code || !has || at < 0 || at > len(c.s) {
			t.Errorf("case %d: %v, %v", i, l, err)
		}
	}
}

// P9.3
func TestNew(t *testing.T) {
	l := []api.KeyValue{nest(2), num("a", 1)}
	sorted := attr.Sort(l)
	found, _ := attr.Find(l, "deep")
	sorted[1].Value.L[0].Kind = 7
	sorted[0].Key = "z"
	if found.L[0].Kind != 5 || l[0].Value.L[0].Kind != 5 || l[1].Key != "a" {
		t.Error("what is answered shares memory")
	}
	found.L[0].L[0].N = 9
	if l[0].Value.L[0].L[0].N != 1 {
		t.Error("what is found shares memory")
	}
}
