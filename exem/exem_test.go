package exem_test

import (
	"testing"

	"hygrometer/api"
	"hygrometer/exem"
	"hygrometer/probe"
)

var calls = probe.Calls[api.Exemplar]{May: exem.May, Size: exem.Size, Marshal: exem.Marshal, Unmarshal: exem.Unmarshal, Same: exem.Same}

// P11.1, P11.3
func TestWritten(t *testing.T) {
	var l []api.Exemplar
	for i, c := range []struct {
		x     api.Exemplar
		depth int
		s     string
	}{
		{api.Exemplar{}, 0, ""},
		{api.Exemplar{Time: 1}, 0, "\x11\x01\x00\x00\x00\x00\x00\x00\x00"},
		{api.Exemplar{Kind: 1}, 0, "\x19\x00\x00\x00\x00\x00\x00\x00\x00"},
		{api.Exemplar{Kind: 2}, 0, "\x31\x00\x00\x00\x00\x00\x00\x00\x00"},
		{api.Exemplar{Kind: 2, N: 1}, 0, "\x31\x01\x00\x00\x00\x00\x00\x00\x00"},
		{api.Exemplar{Kind: 1, N: 1 << 63}, 0, "\x19\x00\x00\x00\x00\x00\x00\x00\x80"},
		{api.Exemplar{Span: "\xFFs"}, 0, "\x22\x02\xFFs"}, {api.Exemplar{Trace: "\xFFs"}, 0, "\x2A\x02\xFFs"},
		{api.Exemplar{Attrs: make([]api.KeyValue, 1)}, 1, "\x3A\x00"},
		{api.Exemplar{Unknown: "\x08\x01\x30\x02\x13\x14"}, 1, "\x08\x01\x30\x02\x13\x14"},
		{api.Exemplar{Attrs: []api.KeyValue{{Key: "k"}, {Has: true}}, Time: 2, Kind: 2, N: 3, Span: "s", Trace: "t", Unknown: "\x40\x00"}, 2, "\x11\x02\x00\x00\x00\x00\x00\x00\x00\x22\x01s\x2A\x01t\x31\x03\x00\x00\x00\x00\x00\x00\x00\x3A\x03\x0A\x01k\x3A\x02\x12\x00\x40\x00"},
		{api.Exemplar{Time: 2, Kind: 1, N: 3, Span: "s"}, 0, "\x11\x02\x00\x00\x00\x00\x00\x00\x00\x19\x03\x00\x00\x00\x00\x00\x00\x00\x22\x01s"},
	} {
		if text := calls.Written(c.x, c.depth, c.s); text != "" {
			t.Errorf("case %d: %s", i, text)
		}
		if text := calls.Near(c.s, 3); text != "" {
			t.Errorf("near case %d: %s", i, text)
		}
		l = append(l, c.x)
	}
	if text := calls.Unlike(l); text != "" {
		t.Error(text)
	}
}

// P11.1: of all records the last one counts.
func TestRead(t *testing.T) {
	for s, x := range map[string]api.Exemplar{
		"\x31\x01\x00\x00\x00\x00\x00\x00\x00\x19\x02\x00\x00\x00\x00\x00\x00\x00": {Kind: 1, N: 2},
		"\x19\x01\x00\x00\x00\x00\x00\x00\x00\x31\x00\x00\x00\x00\x00\x00\x00\x00": {Kind: 2},
		"\x22\x01a\x2A\x01b\x3A\x00\x22\x00\x2A\x01c\x3A\x03\x0A\x01k":             {Trace: "c", Attrs: []api.KeyValue{{}, {Key: "k"}}},
		"\x18\x01\x11\x05\x00\x00\x00\x00\x00\x00\x00\x32\x00\x21abcdefgh":         {Time: 5, Unknown: "\x18\x01\x32\x00\x21abcdefgh"},
	} {
		if text := calls.Read(s, 2, x); text != "" {
			t.Error(text)
		}
	}
}

// P11.1
func TestWrong(t *testing.T) {
	for i, x := range []api.Exemplar{{Kind: 3}, {Kind: -1}, {N: 1}, {Kind: 1 << 40, N: 1}, {Attrs: []api.KeyValue{{Key: "\xFF"}}}, {Unknown: "\x11abcdefgh"}, {Unknown: "\x19abcdefgh"}, {Unknown: "\x22\x00"}, {Unknown: "\x2A\x00"}, {Unknown: "\x31abcdefgh"}, {Unknown: "\x3A\x00"}, {Unknown: "\x08"}} {
		if text := calls.Invalid(x, 9); text != "" {
			t.Errorf("case %d: %s", i, text)
		}
	}
	for s, code := range map[string]api.Code{"\x11abc": api.ErrShort, "\x22\x02a": api.ErrShort, "\x3A\x03\x0A\x01\xFF": api.ErrUTF8, "\x3A\x01\x07": api.ErrForm, "\x08\xFF\xFF\xFF\xFF\xFF\xFF\xFF\xFF\xFF\x02": api.ErrVarint, "\x3A\x02\x12\x00": api.ErrDepth, "\x0B\x13\x14\x0C": api.ErrDepth} {
		if text := calls.Wrong(s, 1, code); text != "" {
			t.Error(text)
		}
	}
}

// P11.2
func TestNew(t *testing.T) {
	x, _ := exem.Unmarshal("\x3A\x00\x3A\x00", 1)
	y, _ := exem.Unmarshal("\x3A\x00\x3A\x00", 1)
	x.Attrs[0].Key = "z"
	if !exem.Same(y, api.Exemplar{Attrs: make([]api.KeyValue, 2)}) {
		t.Error("one shows what was written into another")
	}
}
