package number_test

import (
	"testing"

	"hygrometer/api"
	"hygrometer/number"
	"hygrometer/probe"
)

var calls = probe.Calls[api.Number]{May: number.May, Size: number.Size, Marshal: number.Marshal, Unmarshal: number.Unmarshal, Same: number.Same}

// P12.1, P12.3
func TestWritten(t *testing.T) {
	var l []api.Number
	for i, c := range []struct {
		x     api.Number
		depth int
		s     string
	}{
		{api.Number{}, 0, ""},
		{api.Number{Start: 1}, 0, "\x11\x01\x00\x00\x00\x00\x00\x00\x00"},
		{api.Number{Time: 1 << 56}, 0, "\x19\x00\x00\x00\x00\x00\x00\x00\x01"},
		{api.Number{Kind: 1}, 0, "\x21\x00\x00\x00\x00\x00\x00\x00\x00"},
		{api.Number{Kind: 2}, 0, "\x31\x00\x00\x00\x00\x00\x00\x00\x00"},
		{api.Number{Kind: 1, N: 1}, 0, "\x21\x01\x00\x00\x00\x00\x00\x00\x00"},
		{api.Number{Exemplars: make([]api.Exemplar, 1)}, 1, "\x2A\x00"},
		{api.Number{Attrs: make([]api.KeyValue, 1)}, 1, "\x3A\x00"},
		{api.Number{Flags: 1}, 0, "\x40\x01"},
		{api.Number{Unknown: "\x08\x01\x30\x02\x13\x14"}, 1, "\x08\x01\x30\x02\x13\x14"},
		{api.Number{Attrs: []api.KeyValue{{Key: "k"}, {Has: true}}, Start: 1, Time: 2, Kind: 2, N: 3, Exemplars: []api.Exemplar{{}, {Attrs: []api.KeyValue{{Has: true}}}}, Flags: 1<<32 - 1, Unknown: "\x48\x00"}, 3,
			"\x11\x01\x00\x00\x00\x00\x00\x00\x00\x19\x02\x00\x00\x00\x00\x00\x00\x00\x2A\x00\x2A\x04\x3A\x02\x12\x00\x31\x03\x00\x00\x00\x00\x00\x00\x00\x3A\x03\x0A\x01k\x3A\x02\x12\x00\x40\xFF\xFF\xFF\xFF\x0F\x48\x00"},
		{api.Number{Kind: 1, N: 3, Exemplars: make([]api.Exemplar, 1)}, 1, "\x21\x03\x00\x00\x00\x00\x00\x00\x00\x2A\x00"},
	} {
		if text := calls.Written(c.x, c.depth, c.s); text != "" {
			t.Errorf("case %d: %s", i, text)
		}
		if text := calls.Near(c.s, 4); text != "" {
			t.Errorf("near case %d: %s", i, text)
		}
		l = append(l, c.x)
	}
	if text := calls.Unlike(l); text != "" {
		t.Error(text)
	}
}

// P12.1: of all records the last one counts.
func TestRead(t *testing.T) {
	for s, x := range map[string]api.Number{
		"\x31\x01\x00\x00\x00\x00\x00\x00\x00\x21\x02\x00\x00\x00\x00\x00\x00\x00": {Kind: 1, N: 2},
		"\x21\x01\x00\x00\x00\x00\x00\x00\x00\x31\x00\x00\x00\x00\x00\x00\x00\x00": {Kind: 2},
		"\x40\x01\x2A\x00\x40\x82\x80\x80\x80\x10\x3A\x00\x2A\x03\x22\x01a":        {Flags: 2, Attrs: make([]api.KeyValue, 1), Exemplars: []api.Exemplar{{}, {Span: "a"}}},
		"\x18\x01\x11\x05\x00\x00\x00\x00\x00\x00\x00\x32\x00\x45abcd":             {Start: 5, Unknown: "\x18\x01\x32\x00\x45abcd"},
	} {
		if text := calls.Read(s, 2, x); text != "" {
			t.Error(text)
		}
	}
}

// P12.1
func TestWrong(t *testing.T) {
	for i, x := range []api.Number{{Kind: 3}, {Kind: -1}, {N: 1}, {Kind: 1 << 40, N: 1}, {Attrs: []api.KeyValue{{Key: "\xFF"}}}, {Exemplars: []api.Exemplar{{}, {Kind: 9}}}, {Unknown: "\x11abcdefgh"}, {Unknown: "\x19abcdefgh"}, {Unknown: "\x21abcdefgh"}, {Unknown: "\x2A\x00"}, {Unknown: "\x31abcdefgh"}, {Unknown: "\x3A\x00"}, {Unknown: "\x40\x00"}, {Unknown: "\x08"}} {
		if text := calls.Invalid(x, 9); text != "" {
			t.Errorf("case %d: %s", i, text)
		}
	}
	for s, code := range map[string]api.Code{"\x11abc": api.ErrShort, "\x2A\x02a": api.ErrShort, "\x2A\x03\x11ab": api.ErrShort, "\x3A\x03\x0A\x01\xFF": api.ErrUTF8, "\x2A\x01\x07": api.ErrForm, "\x40\xFF\xFF\xFF\xFF\xFF\xFF\xFF\xFF\xFF\x02": api.ErrVarint, "\x3A\x02\x12\x00": api.ErrDepth, "\x2A\x02\x3A\x00": api.ErrDepth, "\x0B\x13\x14\x0C": api.ErrDepth} {
		if text := calls.Wrong(s, 1, code); text != "" {
			t.Error(text)
		}
	}
}

// P12.2
func TestNew(t *testing.T) {
	x, _ := number.Unmarshal("\x3A\x00\x2A\x00\x3A\x00\x2A\x00", 1)
	y, _ := number.Unmarshal("\x3A\x00\x2A\x00\x3A\x00\x2A\x00", 1)
	x.Attrs[0].Key, x.Exemplars[1].Time = "z", 4
	if !number.Same(y, api.Number{Attrs: make([]api.KeyValue, 2), Exemplars: make([]api.Exemplar, 2)}) {
		t.Error("one shows what was written into another")
	}
}
