package value_test

import (
	"strings"
	"testing"

	"hygrometer/api"
	"hygrometer/blame"
	"hygrometer/probe"
	"hygrometer/value"
)

var values = probe.Calls[api.Value]{May: value.May, Size: value.Size, Marshal: value.Marshal, Unmarshal: value.Unmarshal, Same: value.Same}

var keys = probe.Calls[api.KeyValue]{May: value.MayKey, Size: value.SizeKey, Marshal: value.MarshalKey, Unmarshal: value.UnmarshalKey, Same: value.SameKey}

type written struct {
	x     api.Value
	depth int // the least
	s     string
}

func text(s string) api.Value { return api.Value{Kind: 1, S: s} }

func all() []written {
	return []written{
		{api.Value{}, 0, ""},
		{text(""), 0, "\x0A\x00"}, {text("é"), 0, "\x0A\x02é"},
		{api.Value{Kind: 2}, 0, "\x10\x00"}, {api.Value{Kind: 2, B: true}, 0, "\x10\x01"},
		{api.Value{Kind: 3}, 0, "\x18\x00"}, {api.Value{Kind: 3, N: 1}, 0, "\x18\x01"}, {api.Value{Kind: 3, N: 1<<64 - 1}, 0, "\x18\xFF\xFF\xFF\xFF\xFF\xFF\xFF\xFF\xFF\x01"},
		{api.Value{Kind: 4}, 0, "\x21\x00\x00\x00\x00\x00\x00\x00\x00"}, {api.Value{Kind: 4, N: 0x3FF0000000000001}, 0, "\x21\x01\x00\x00\x00\x00\x00\xF0\x3F"},
		{api.Value{Kind: 5}, 1, "\x2A\x00"}, {api.Value{Kind: 6}, 1, "\x32\x00"},
		{api.Value{Kind: 5, L: []api.Value{{}, text("a"), {Kind: 7}}}, 2, "\x2A\x0B\x0A\x00\x0A\x03\x0A\x01a\x0A\x02\x3A\x00"},
		{api.Value{Kind: 5, L: []api.Value{{Kind: 5, L: []api.Value{{Kind: 5}}}}}, 5, "\x2A\x08\x0A\x06\x2A\x04\x0A\x02\x2A\x00"},
		{api.Value{Kind: 6, M: []api.KeyValue{{Key: "k"}}}, 2, "\x32\x05\x0A\x03\x0A\x01k"},
		{api.Value{Kind: 6, M: []api.KeyValue{{Has: true}}}, 3, "\x32\x04\x0A\x02\x12\x00"},
		{api.Value{Kind: 5, Inner: "\x10\x01\x0D\x01\x02\x03\x04", Unknown: "\x08\x01\x42\x00"}, 1, "\x2A\x07\x10\x01\x0D\x01\x02\x03\x04\x08\x01\x42\x00"},
		{api.Value{Kind: 6, M: []api.KeyValue{{Key: "k"}}, Inner: "\x12\x00"}, 2, "\x32\x07\x0A\x03\x0A\x01k\x12\x00"},
		{api.Value{Kind: 5, Inner: "\x0B\x0C"}, 2, "\x2A\x02\x0B\x0C"},
		{api.Value{Unknown: "\x43\x4B\x4C\x44"}, 2, "\x43\x4B\x4C\x44"},
		{api.Value{Kind: 7, S: "\xFF"}, 0, "\x3A\x01\xFF"}, {api.Value{Kind: 7}, 0, "\x3A\x00"},
	}
}

// P8.1, P8.3
func TestValues(t *testing.T) {
	var l []api.Value
	for i, c := range all() {
		if text := values.Written(c.x, c.depth, c.s); text != "" {
			t.Errorf("case %d: %s", i, text)
		}
		if text := values.Near(c.s, c.depth+1); text != "" {
			t.Errorf("near case %d: %s", i, text)
		}
		l = append(l, c.x)
	}
	if text := values.Unlike(l); text != "" {
		t.Error(text)
	}
}

// P8.1: of a group the last one counts, and the bytes of a message behind the last one of another number.
func TestOneOf(t *testing.T) {
	for i, c := range []struct {
		s string
		x api.Value
	}{
		{"\x0A\x01a\x18\x05", api.Value{Kind: 3, N: 5}},
		{"\x18\x05\x0A\x01a\x0A\x01b", text("b")},
		{"\x3A\x01a\x3A\x00", api.Value{Kind: 7}},
		{"\x18\x05\x18\x00", api.Value{Kind: 3}},
		{"\x10\x80\x01", api.Value{Kind: 2, B: true}},
		{"\x10\x01\x10\x00", api.Value{Kind: 2}},
		{"\x2A\x02\x0A\x00\x2A\x02\x10\x01\x2A\x02\x0A\x00", api.Value{Kind: 5, L: []api.Value{{}, {}}, Inner: "\x10\x01"}},
		{"\x2A\x02\x0A\x00\x18\x01\x2A\x02\x10\x01", api.Value{Kind: 5, Inner: "\x10\x01"}},
		{"\x2A\x02\x0A\x00\x32\x02\x0A\x00", api.Value{Kind: 6, M: []api.KeyValue{{}}}},
		{"\x2A\x02\x0A\x00\x40\x01\x29abcdefgh\x2A\x02\x0A\x00", api.Value{Kind: 5, L: []api.Value{{}, {}}, Unknown: "\x40\x01\x29abcdefgh"}},
		{"\x2A\x01\x0A\x2A\x01\x00", api.Value{Kind: 5, L: []api.Value{{}}}},
		{"\x2A\x01\xFF\x18\x01", api.Value{Kind: 3, N: 1}},
		{"\x32\x01\xFF\x2A\x00", api.Value{Kind: 5}},
		{"\x15abcd\x08\x01\x18\x02\x22\x00", api.Value{Kind: 3, N: 2, Unknown: "\x15abcd\x08\x01\x22\x00"}},
		{"\x88\x00\x01\x98\x00\x82\x00", api.Value{Kind: 3, N: 2, Unknown: "\x88\x00\x01"}},
	} {
		if text := values.Read(c.s, 4, c.x); text != "" {
			t.Errorf("case %d: %s", i, text)
		}
	}
}

// P8.1
func TestInvalid(t *testing.T) {
	deep := api.Value{Kind: 5, L: []api.Value{{Kind: 5, L: []api.Value{{Kind: 5}}}}}
	for i, x := range []api.Value{
		{Kind: 8}, {Kind: -1}, {Kind: 1 << 62}, {S: "a"}, {B: true}, {N: 1}, {L: make([]api.Value, 1)}, {M: make([]api.KeyValue, 1)}, {Inner: "\x10\x01"},
		{Kind: 1, N: 1}, {Kind: 1, S: "\xFF"}, {Kind: 2, N: 1}, {Kind: 2, B: true, N: 1}, {Kind: 3, B: true}, {Kind: 3, S: "a"}, {Kind: 4, S: "a"}, {Kind: 5, N: 1}, {Kind: 5, M: make([]api.KeyValue, 1)}, {Kind: 6, L: make([]api.Value, 1)}, {Kind: 7, Inner: "\x10\x01"}, {Kind: 1, Inner: "\x10\x01"},
		{Kind: 5, Inner: "\x0A\x00"}, {Kind: 6, Inner: "\x0A\x00"}, {Kind: 5, Inner: "\x10"}, {Unknown: "\x0A\x00"}, {Unknown: "\x10\x01"}, {Unknown: "\x18\x01"}, {Unknown: "\x21abcdefgh"}, {Unknown: "\x2A\x00"}, {Unknown: "\x32\x00"}, {Unknown: "\x3A\x00"}, {Unknown: "\x40"}, {Unknown: "\x44"},
		{Kind: 5, L: []api.Value{{Kind: 9}}}, {Kind: 5, L: []api.Value{{}, text("\x80")}}, {Kind: 6, M: []api.KeyValue{{Key: "\x80"}}}, {Kind: 6, M: []api.KeyValue{{Value: text("a")}}},
		{Unknown: strings.Repeat("\x43", 10) + strings.Repeat("\x44", 10)}, {Kind: 5, L: []api.Value{{Kind: 5, L: []api.Value{deep, deep}}}},
	} {
		if text := values.Invalid(x, 7); text != "" {
			t.Errorf("case %d: %s", i, text)
		}
		_ = value.Size(x)
	}
}

// P8.1
func TestWrong(t *testing.T) {
	for s, code := range map[string]api.Code{
		"\x0A": api.ErrShort, "\x0A\x02a": api.ErrShort, "\x21abc": api.ErrShort, "\x2A\x01\x0A": api.ErrShort, "\x2A\x03\x0A\x01\x08": api.ErrShort, "\x32\x03\x0A\x01\x08": api.ErrShort,
		"\x0A\x01\xFF": api.ErrUTF8, "\x0A\x01\xFF\x18\x01": api.ErrUTF8, "\x32\x05\x0A\x03\x0A\x01\xFF": api.ErrUTF8, "\x2A\x05\x0A\x03\x0A\x01\xC0": api.ErrUTF8,
		"\x00": api.ErrForm, "\x0C": api.ErrForm, "\x2A\x01\x07": api.ErrForm,
		"\x18\xFF\xFF\xFF\xFF\xFF\xFF\xFF\xFF\xFF\x02": api.ErrVarint, "\x40\xFF\xFF\xFF\xFF\xFF\xFF\xFF\xFF\xFF\x02": api.ErrVarint,
		"\x2A\x04\x0A\x02\x2A\x00": api.ErrDepth, "\x43\x43\x43\x44\x44\x44": api.ErrDepth, "\x2A\x04\x0B\x0B\x0C\x0C": api.ErrDepth,
	} {
		if text := values.Wrong(s, 2, code); text != "" {
			t.Error(text)
		}
	}
}

// P8.1
func TestKeys(t *testing.T) {
	one := api.Value{Kind: 3, N: 1}
	l := []api.KeyValue{{}, {Key: "k"}, {Has: true}, {Key: "k", Has: true, Value: one}, {Unknown: "\x18\x01\x08\x02"}, {Key: "k", Has: true, Value: api.Value{Unknown: "\x40\x00"}, Unknown: "\x1A\x00"}, {Has: true, Value: api.Value{Kind: 6, M: []api.KeyValue{{Key: "a", Has: true}}}}}
	depths := []int{0, 0, 1, 1, 0, 1, 4}
	for i, s := range []string{"", "\x0A\x01k", "\x12\x00", "\x0A\x01k\x12\x02\x18\x01", "\x18\x01\x08\x02", "\x0A\x01k\x12\x02\x40\x00\x1A\x00", "\x12\x09\x32\x07\x0A\x05\x0A\x01a\x12\x00"} {
		if text := keys.Written(l[i], depths[i], s); text != "" {
			t.Errorf("case %d: %s", i, text)
		}
		if text := keys.Near(s, 5); text != "" {
			t.Errorf("near case %d: %s", i, text)
		}
	}
	if text := keys.Unlike(l); text != "" {
		t.Error(text)
	}
	if text := keys.Read("\x12\x02\x18\x01\x0A\x01a\x12\x02\x40\x02\x12\x00\x0A\x01b", 3, api.KeyValue{Key: "b", Has: true, Value: api.Value{Kind: 3, N: 1, Unknown: "\x40\x02"}}); text != "" {
		t.Error("a message in pieces:", text)
	}
	for i, x := range []api.KeyValue{{Key: "\xFF"}, {Value: one}, {Value: api.Value{Unknown: "\x40\x00"}}, {Value: api.Value{S: "a"}}, {Has: true, Value: api.Value{Kind: 9}}, {Unknown: "\x0A\x00"}, {Unknown: "\x12\x00"}, {Unknown: "\x18"}} {
		if text := keys.Invalid(x, 9); text != "" {
			t.Errorf("case %d: %s", i, text)
		}
	}
	for s, code := range map[string]api.Code{"\x0A\x01\xFF\x0A\x00": api.ErrUTF8, "\x12\x01\x18": api.ErrShort, "\x12\x03\x0A\x01\xFF": api.ErrUTF8, "\x12\x01\x00": api.ErrForm} {
		if text := keys.Wrong(s, 9, code); text != "" {
			t.Error(text)
		}
	}
}

// P8.1
func TestLists(t *testing.T) {
	a, b := api.KeyValue{Key: "a", Has: true}, api.KeyValue{Key: "b"}
	if !value.MayKeys(nil, -1) || !value.MayKeys([]api.KeyValue{a, b}, 1) || value.MayKeys([]api.KeyValue{b, a}, 0) || !value.MayKeys([]api.KeyValue{b}, 0) || value.MayKeys([]api.KeyValue{b}, -1) {
		t.Error("MayKeys")
	}
	if !value.SameKeys(nil, []api.KeyValue{}) || value.SameKeys(nil, []api.KeyValue{{}}) || !value.SameKeys([]api.KeyValue{a, b}, []api.KeyValue{a, b}) || value.SameKeys([]api.KeyValue{a, b}, []api.KeyValue{b, a}) {
		t.Error("SameKeys")
	}
	if !value.Same(api.Value{Kind: 5}, api.Value{Kind: 5, L: []api.Value{}, M: []api.KeyValue{}}) {
		t.Error("lists without elements are alike")
	}
}

// P8.1: what is nested deeply is written and read in one go.
func TestDeep(t *testing.T) {
	const n = 1 << 14
	x := text("end")
	for range n {
		x = api.Value{Kind: 5, L: []api.Value{x}}
	}
	s, err := value.Marshal(x, 2*n)
	if err != nil || value.Size(x) != len(s) {
		t.Fatal(err, len(s), value.Size(x))
	}
	y, err := value.Unmarshal(s, 2*n)
	if err != nil || !value.Same(x, y) {
		t.Error(err)
	}
	if value.May(x, 2*n-1) {
		t.Error("it may be less deep")
	}
	if _, err := value.Unmarshal(s, 2*n-1); blame.Code(err) != api.ErrDepth {
		t.Error("it is read less deep")
	}
}

// P8.2
func TestNew(t *testing.T) {
	const s = "\x2A\x04\x0A\x00\x0A\x00"
	x, _ := value.Unmarshal(s, 3)
	y, _ := value.Unmarshal(s, 3)
	x.L[0].Kind = 3
	_ = append(x.L[:1], api.Value{Kind: 2})
	if !value.Same(y, api.Value{Kind: 5, L: make([]api.Value, 2)}) {
		t.Error("one shows what was written into another")
	}
	room := append(make([]api.Value, 0, 4), text("a"), text("b"))
	z := api.Value{Kind: 5, L: room[:1]}
	if got, err := value.Marshal(z, 3); got != "\x2A\x05\x0A\x03\x0A\x01a" || err != nil || room[1].S != "b" {
		t.Errorf("% X, %v", got, err)
	}
}
