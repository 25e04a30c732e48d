package exph_test

import (
	"testing"

	"hygrometer/api"
	"hygrometer/exph"
	"hygrometer/probe"
)

var calls = probe.Calls[api.Exp]{May: exph.May, Size: exph.Size, Marshal: exph.Marshal, Unmarshal: exph.Unmarshal, Same: exph.Same}

var sides = probe.Calls[api.Buckets]{May: exph.MayBuckets, Size: exph.SizeBuckets, Marshal: exph.MarshalBuckets, Unmarshal: exph.UnmarshalBuckets, Same: exph.SameBuckets}

// eight are the bytes of a small number.
func eight(n byte) string { return string([]byte{n}) + "\x00\x00\x00\x00\x00\x00\x00" }

// P14.1, P14.3
func TestWritten(t *testing.T) {
	some := api.Opt{Has: true}
	var l []api.Exp
	for i, c := range []struct {
		x     api.Exp
		depth int
		s     string
	}{
		{api.Exp{}, 0, ""},
		{api.Exp{Attrs: make([]api.KeyValue, 1)}, 1, "\x0A\x00"},
		{api.Exp{Start: 1}, 0, "\x11" + eight(1)}, {api.Exp{Time: 1}, 0, "\x19" + eight(1)}, {api.Exp{Count: 1}, 0, "\x21" + eight(1)},
		{api.Exp{Sum: some}, 0, "\x29" + eight(0)}, {api.Exp{Sum: api.Opt{Has: true, N: 1}}, 0, "\x29" + eight(1)},
		{api.Exp{Scale: -1}, 0, "\x30\x01"}, {api.Exp{Scale: 20}, 0, "\x30\x28"}, {api.Exp{Scale: -1 << 31}, 0, "\x30\xFF\xFF\xFF\xFF\x0F"},
		{api.Exp{Zero: 1}, 0, "\x39" + eight(1)},
		{api.Exp{HasPos: true}, 1, "\x42\x00"}, {api.Exp{HasNeg: true}, 1, "\x4A\x00"},
		{api.Exp{HasPos: true, Pos: api.Buckets{Offset: -1, Counts: []uint64{1, 300}}}, 1, "\x42\x07\x08\x01\x12\x03\x01\xAC\x02"},
		{api.Exp{HasNeg: true, Neg: api.Buckets{Unknown: "\x0B\x0C"}}, 2, "\x4A\x02\x0B\x0C"},
		{api.Exp{Flags: 1}, 0, "\x50\x01"}, {api.Exp{Exemplars: make([]api.Exemplar, 1)}, 1, "\x5A\x00"},
		{api.Exp{Min: some}, 0, "\x61" + eight(0)}, {api.Exp{Max: some}, 0, "\x69" + eight(0)}, {api.Exp{Threshold: 1}, 0, "\x71" + eight(1)},
		{api.Exp{Unknown: "\x08\x01\x32\x02ab\x13\x14"}, 1, "\x08\x01\x32\x02ab\x13\x14"}, {api.Exp{Unknown: "\x7A\x00\x78\x01\x79abcdefgh\x85\x01abcd"}, 0, "\x7A\x00\x78\x01\x79abcdefgh\x85\x01abcd"},
		{api.Exp{Attrs: []api.KeyValue{{Key: "k"}}, Start: 1, Time: 2, Count: 3, Sum: api.Opt{Has: true, N: 4}, Min: api.Opt{Has: true, N: 5}, Max: api.Opt{Has: true, N: 6}, Scale: 1, Zero: 7, HasPos: true, Pos: api.Buckets{Offset: 2}, HasNeg: true, Neg: api.Buckets{Counts: []uint64{0}}, Exemplars: []api.Exemplar{{Attrs: []api.KeyValue{{Has: true}}}}, Flags: 1<<32 - 1, Threshold: 8, Unknown: "\x08\x00"}, 3,
			"\x0A\x03\x0A\x01k\x11" + eight(1) + "\x19" + eight(2) + "\x21" + eight(3) + "\x29" + eight(4) + "\x30\x02\x39" + eight(7) + "\x42\x02\x08\x04\x4A\x03\x12\x01\x00\x50\xFF\xFF\xFF\xFF\x0F\x5A\x04\x3A\x02\x12\x00\x61" + eight(5) + "\x69" + eight(6) + "\x71" + eight(8) + "\x08\x00"},
	} {
		if text := calls.Written(c.x, c.depth, c.s); text != "" {
			t.Errorf("case %d: %s", i, text)
		}
		if text := calls.Near(c.s, 4); text != "" {
			t.Errorf("near case %d: %s", i, text)
		}
		l = append(l, c.x)
	}
	if text := calls.Unlike(l); text != "" {
		t.Error(text)
	}
}

// P14.1: a side in several records is one; of numbers the last one counts.
func TestRead(t *testing.T) {
	for s, x := range map[string]api.Exp{
		"\x42\x04\x08\x03\x12\x00\x4A\x02\x10\x01\x42\x04\x12\x02\x05\x06\x42\x02\x08\x01": {HasPos: true, Pos: api.Buckets{Offset: -1, Counts: []uint64{5, 6}}, HasNeg: true, Neg: api.Buckets{Counts: []uint64{1}}},
		"\x42\x01\x08\x42\x01\x02": {HasPos: true, Pos: api.Buckets{Offset: 1}},
		"\x30\x03\x30\x84\x80\x80\x80\x10\x29" + eight(1) + "\x29" + eight(0):  {Scale: 2, Sum: api.Opt{Has: true}},
		"\x40\x01\x35\x01\x02\x03\x04\x5A\x00\x5A\x03\x22\x01a\x51" + eight(1): {Exemplars: []api.Exemplar{{}, {Span: "a"}}, Unknown: "\x40\x01\x35\x01\x02\x03\x04\x51" + eight(1)},
	} {
		if text := calls.Read(s, 2, x); text != "" {
			t.Error(text)
		}
	}
}

// P14.1
func TestWrong(t *testing.T) {
	for i, x := range []api.Exp{{Sum: api.Opt{N: 1}}, {Min: api.Opt{N: 1}}, {Max: api.Opt{N: 1}}, {Attrs: []api.KeyValue{{Key: "\xFF"}}}, {Exemplars: []api.Exemplar{{}, {Kind: 9}}}, {Pos: api.Buckets{Offset: 1}}, {Neg: api.Buckets{Counts: []uint64{0}}}, {HasNeg: true, Pos: api.Buckets{Unknown: "\x18\x01"}}, {HasPos: true, Pos: api.Buckets{Unknown: "\x08\x01"}},
		{Unknown: "\x0A\x00"}, {Unknown: "\x11abcdefgh"}, {Unknown: "\x29abcdefgh"}, {Unknown: "\x30\x00"}, {Unknown: "\x39abcdefgh"}, {Unknown: "\x42\x00"}, {Unknown: "\x4A\x00"}, {Unknown: "\x50\x00"}, {Unknown: "\x5A\x00"}, {Unknown: "\x61abcdefgh"}, {Unknown: "\x71abcdefgh"}, {Unknown: "\x08"}} {
		if text := calls.Invalid(x, 9); text != "" {
			t.Errorf("case %d: %s", i, text)
		}
	}
	for s, code := range map[string]api.Code{"\x11abc": api.ErrShort, "\x42\x03\x12\x01\x80": api.ErrShort, "\x4A\x01\x08": api.ErrShort, "\x0A\x03\x0A\x01\xFF": api.ErrUTF8, "\x42\x01\x07": api.ErrForm, "\x4A\x01\x07": api.ErrForm, "\x30\xFF\xFF\xFF\xFF\xFF\xFF\xFF\xFF\xFF\x02": api.ErrVarint, "\x42\x0C\x12\x0A\xFF\xFF\xFF\xFF\xFF\xFF\xFF\xFF\xFF\x02": api.ErrVarint, "\x0A\x02\x12\x00": api.ErrDepth, "\x42\x02\x0B\x0C": api.ErrDepth, "\x4A\x02\x0B\x0C": api.ErrDepth} {
		if text := calls.Wrong(s, 1, code); text != "" {
			t.Error(text)
		}
	}
}

// P14.1, P14.3
func TestSides(t *testing.T) {
	l := []api.Buckets{{}, {Offset: -1, Counts: []uint64{1, 300}}, {Offset: 1<<31 - 1}, {Counts: []uint64{0}}, {Counts: []uint64{1<<64 - 1, 0}}, {Unknown: "\x18\x01\x0A\x00\x11abcdefgh"}}
	for i, s := range []string{"", "\x08\x01\x12\x03\x01\xAC\x02", "\x08\xFE\xFF\xFF\xFF\x0F", "\x12\x01\x00", "\x12\x0B\xFF\xFF\xFF\xFF\xFF\xFF\xFF\xFF\xFF\x01\x00", "\x18\x01\x0A\x00\x11abcdefgh"} {
		if text := sides.Written(l[i], 0, s); text != "" {
			t.Errorf("case %d: %s", i, text)
		}
		if text := sides.Near(s, 1); text != "" {
			t.Errorf("near case %d: %s", i, text)
		}
	}
	if text := sides.Unlike(l); text != "" {
		t.Error(text)
	}
	for s, x := range map[string]api.Buckets{"\x10\x05\x12\x02\x06\x07\x08\x02\x10\x80\x01\x12\x00\x08\x00": {Counts: []uint64{5, 6, 7, 128}}, "\x08\x81\x80\x80\x80\x10": {Offset: -1}, "\x12\x02\x80\x00": {Counts: []uint64{0}}} {
		if text := sides.Read(s, 0, x); text != "" {
			t.Error(text)
		}
	}
	for i, x := range []api.Buckets{{Unknown: "\x08\x00"}, {Unknown: "\x10\x00"}, {Unknown: "\x12\x00"}, {Unknown: "\x18"}} {
		if text := sides.Invalid(x, 3); text != "" {
			t.Errorf("case %d: %s", i, text)
		}
	}
	for s, code := range map[string]api.Code{"\x12\x01\x80": api.ErrShort, "\x08": api.ErrShort, "\x00": api.ErrForm, "\x12\x0A\xFF\xFF\xFF\xFF\xFF\xFF\xFF\xFF\xFF\x02": api.ErrVarint, "\x0B\x0C": api.ErrDepth} {
		if text := sides.Wrong(s, 0, code); text != "" {
			t.Error(text)
		}
	}
}

// P14.2
func TestNew(t *testing.T) {
	s := "\x0A\x00\x5A\x00\x42\x04\x12\x02\x05\x06\x4A\x02\x10\x07"
	x, _ := exph.Unmarshal(s, 1)
	y, _ := exph.Unmarshal(s, 1)
	x.Attrs[0].Key, x.Exemplars[0].Time, x.Pos.Counts[0], x.Neg.Counts[0] = "z", 4, 5, 6
	_ = append(x.Pos.Counts, 7)
	if !exph.Same(y, api.Exp{Attrs: make([]api.KeyValue, 1), Exemplars: make([]api.Exemplar, 1), HasPos: true, Pos: api.Buckets{Counts: []uint64{5, 6}}, HasNeg: true, Neg: api.Buckets{Counts: []uint64{7}}}) {
		t.Error("one shows what was written into another")
	}
}
