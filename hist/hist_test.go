package hist_test

import (
	"testing"

	"hygrometer/api"
	"hygrometer/hist"
	"hygrometer/probe"
)

var calls = probe.Calls[api.Hist]{May: hist.May, Size: hist.Size, Marshal: hist.Marshal, Unmarshal: hist.Unmarshal, Same: hist.Same}

// eight are the bytes of a small number.
func eight(n byte) string { return string([]byte{n}) + "\x00\x00\x00\x00\x00\x00\x00" }

// P13.1, P13.3
func TestWritten(t *testing.T) {
	var l []api.Hist
	for i, c := range []struct {
		x     api.Hist
		depth int
		s     string
	}{
		{api.Hist{}, 0, ""},
		{api.Hist{Start: 1}, 0, "\x11" + eight(1)}, {api.Hist{Time: 1}, 0, "\x19" + eight(1)}, {api.Hist{Count: 1}, 0, "\x21" + eight(1)},
		{api.Hist{Sum: api.Opt{Has: true}}, 0, "\x29" + eight(0)}, {api.Hist{Sum: api.Opt{Has: true, N: 1}}, 0, "\x29" + eight(1)},
		{api.Hist{Counts: []uint64{0}}, 0, "\x32\x08" + eight(0)}, {api.Hist{Counts: []uint64{1, 2}}, 0, "\x32\x10" + eight(1) + eight(2)}, {api.Hist{Bounds: []uint64{1, 2}}, 0, "\x3A\x10" + eight(1) + eight(2)},
		{api.Hist{Exemplars: make([]api.Exemplar, 1)}, 1, "\x42\x00"}, {api.Hist{Attrs: make([]api.KeyValue, 1)}, 1, "\x4A\x00"}, {api.Hist{Flags: 1}, 0, "\x50\x01"},
		{api.Hist{Min: api.Opt{Has: true}}, 0, "\x59" + eight(0)}, {api.Hist{Max: api.Opt{Has: true}}, 0, "\x61" + eight(0)},
		{api.Hist{Unknown: "\x08\x01\x30\x02\x13\x14"}, 1, "\x08\x01\x30\x02\x13\x14"},
		{api.Hist{Attrs: []api.KeyValue{{Key: "k"}}, Start: 1, Time: 2, Count: 3, Sum: api.Opt{Has: true, N: 4}, Min: api.Opt{Has: true, N: 5}, Max: api.Opt{Has: true, N: 6}, Counts: []uint64{3}, Bounds: []uint64{9}, Exemplars: []api.Exemplar{{Attrs: []api.KeyValue{{Has: true}}}}, Flags: 1<<32 - 1, Unknown: "\x08\x00"}, 3,
			"\x11" + eight(1) + "\x19" + eight(2) + "\x21" + eight(3) + "\x29" + eight(4) + "\x32\x08" + eight(3) + "\x3A\x08" + eight(9) + "\x42\x04\x3A\x02\x12\x00\x4A\x03\x0A\x01k\x50\xFF\xFF\xFF\xFF\x0F\x59" + eight(5) + "\x61" + eight(6) + "\x08\x00"},
	} {
		if text := calls.Written(c.x, c.depth, c.s); text != "" {
			t.Errorf("case %d: %s", i, text)
		}
		if text := calls.Near(c.s, 4); text != "" {
			t.Errorf("near case %d: %s", i, text)
		}
		l = append(l, c.x)
	}
	if text := calls.Unlike(l); text != "" {
		t.Error(text)
	}
}

// P13.1: packed numbers are read from all records; of the others the last one counts.
func TestRead(t *testing.T) {
	for s, x := range map[string]api.Hist{
		"\x32\x08" + eight(1) + "\x31" + eight(2) + "\x32\x00\x32\x10" + eight(3) + eight(4): {Counts: []uint64{1, 2, 3, 4}},
		"\x39" + eight(1) + "\x32\x00\x39" + eight(0):                                        {Bounds: []uint64{1, 0}},
		"\x29" + eight(1) + "\x29" + eight(0) + "\x61" + eight(2) + "\x61" + eight(3):        {Sum: api.Opt{Has: true}, Max: api.Opt{Has: true, N: 3}},
		"\x30\x01\x3D\x01\x02\x03\x04\x42\x00\x42\x03\x22\x01a\x51" + eight(1):               {Exemplars: []api.Exemplar{{}, {Span: "a"}}, Unknown: "\x30\x01\x3D\x01\x02\x03\x04\x51" + eight(1)},
	} {
		if text := calls.Read(s, 2, x); text != "" {
			t.Error(text)
		}
	}
}

// P13.1
func TestWrong(t *testing.T) {
	for i, x := range []api.Hist{{Sum: api.Opt{N: 1}}, {Min: api.Opt{N: 1}}, {Max: api.Opt{N: 1}}, {Attrs: []api.KeyValue{{Key: "\xFF"}}}, {Exemplars: []api.Exemplar{{}, {Kind: 9}}}, {Unknown: "\x11abcdefgh"}, {Unknown: "\x29abcdefgh"}, {Unknown: "\x32\x00"}, {Unknown: "\x31abcdefgh"}, {Unknown: "\x3A\x01a"}, {Unknown: "\x39abcdefgh"}, {Unknown: "\x42\x00"}, {Unknown: "\x4A\x00"}, {Unknown: "\x50\x00"}, {Unknown: "\x59abcdefgh"}, {Unknown: "\x61abcdefgh"}, {Unknown: "\x08"}} {
		if text := calls.Invalid(x, 9); text != "" {
			t.Errorf("case %d: %s", i, text)
		}
	}
	for s, code := range map[string]api.Code{"\x11abc": api.ErrShort, "\x32\x07abcdefg": api.ErrShort, "\x3A\x09abcdefghi": api.ErrShort, "\x42\x03\x11ab": api.ErrShort, "\x4A\x03\x0A\x01\xFF": api.ErrUTF8, "\x42\x01\x07": api.ErrForm, "\x50\xFF\xFF\xFF\xFF\xFF\xFF\xFF\xFF\xFF\x02": api.ErrVarint, "\x4A\x02\x12\x00": api.ErrDepth, "\x0B\x13\x14\x0C": api.ErrDepth} {
		if text := calls.Wrong(s, 1, code); text != "" {
			t.Error(text)
		}
	}
}

// P13.2
func TestNew(t *testing.T) {
	s := "\x4A\x00\x42\x00\x32\x10" + eight(1) + eight(2) + "\x3A\x08" + eight(3)
	x, _ := hist.Unmarshal(s, 1)
	y, _ := hist.Unmarshal(s, 1)
	x.Attrs[0].Key, x.Exemplars[0].Time, x.Counts[0], x.Bounds[0] = "z", 4, 5, 6
	_ = append(x.Counts, 7)
	if !hist.Same(y, api.Hist{Attrs: make([]api.KeyValue, 1), Exemplars: make([]api.Exemplar, 1), Counts: []uint64{1, 2}, Bounds: []uint64{3}}) {
		t.Error("one shows what was written into another")
	}
}
