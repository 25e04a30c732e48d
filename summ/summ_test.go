package summ_test

import (
	"testing"

	"hygrometer/api"
	"hygrometer/probe"
	"hygrometer/summ"
)

var calls = probe.Calls[api.Summary]{May: summ.May, Size: summ.Size, Marshal: summ.Marshal, Unmarshal: summ.Unmarshal, Same: summ.Same}

// eight are the bytes of a small number.
func eight(n byte) string { return string([]byte{n}) + "\x00\x00\x00\x00\x00\x00\x00" }

// P15.1, P15.3
func TestWritten(t *testing.T) {
	var l []api.Summary
	for i, c := range []struct {
		x     api.Summary
		depth int
		s     string
	}{
		{api.Summary{}, 0, ""},
		{api.Summary{Start: 1}, 0, "\x11" + eight(1)}, {api.Summary{Time: 1}, 0, "\x19" + eight(1)}, {api.Summary{Count: 1}, 0, "\x21" + eight(1)}, {api.Summary{Sum: 1}, 0, "\x29" + eight(1)},
		{api.Summary{Quantiles: make([]api.Quantile, 1)}, 1, "\x32\x00"}, {api.Summary{Quantiles: make([]api.Quantile, 2)}, 1, "\x32\x00\x32\x00"},
		{api.Summary{Quantiles: []api.Quantile{{Q: 1, V: 2, Unknown: "\x08\x01"}}}, 1, "\x32\x14\x09" + eight(1) + "\x11" + eight(2) + "\x08\x01"}, {api.Summary{Quantiles: []api.Quantile{{V: 1}}}, 1, "\x32\x09\x11" + eight(1)},
		{api.Summary{Quantiles: []api.Quantile{{Unknown: "\x0B\x0C"}}}, 2, "\x32\x02\x0B\x0C"},
		{api.Summary{Attrs: make([]api.KeyValue, 1)}, 1, "\x3A\x00"}, {api.Summary{Flags: 1}, 0, "\x40\x01"}, {api.Summary{Unknown: "\x08\x01\x13\x14"}, 1, "\x08\x01\x13\x14"},
		{api.Summary{Attrs: []api.KeyValue{{Has: true}}, Start: 1, Time: 2, Count: 3, Sum: 4, Quantiles: []api.Quantile{{Q: 5}}, Flags: 1<<32 - 1, Unknown: "\x48\x00"}, 2,
			"\x11" + eight(1) + "\x19" + eight(2) + "\x21" + eight(3) + "\x29" + eight(4) + "\x32\x09\x09" + eight(5) + "\x3A\x02\x12\x00\x40\xFF\xFF\xFF\xFF\x0F\x48\x00"},
	} {
		if text := calls.Written(c.x, c.depth, c.s); text != "" {
			t.Errorf("case %d: %s", i, text)
		}
		if text := calls.Near(c.s, 4); text != "" {
			t.Errorf("near case %d: %s", i, text)
		}
		l = append(l, c.x)
	}
	if text := calls.Unlike(l); text != "" {
		t.Error(text)
	}
	for s, x := range map[string]api.Summary{
		"\x29" + eight(1) + "\x29" + eight(0) + "\x40\x81\x80\x80\x80\x10":                         {Flags: 1},
		"\x32\x12\x09" + eight(1) + "\x09" + eight(2) + "\x28\x01\x32\x04\x08\x01\x12\x00\x42\x00": {Quantiles: []api.Quantile{{Q: 2}, {Unknown: "\x08\x01\x12\x00"}}, Unknown: "\x28\x01\x42\x00"},
	} {
		if text := calls.Read(s, 2, x); text != "" {
			t.Error(text)
		}
	}
}

// P15.1
func TestWrong(t *testing.T) {
	for i, x := range []api.Summary{{Attrs: []api.KeyValue{{Key: "\xFF"}}}, {Quantiles: []api.Quantile{{}, {Unknown: "\x09abcdefgh"}}}, {Quantiles: []api.Quantile{{Unknown: "\x11abcdefgh"}}}, {Quantiles: []api.Quantile{{Unknown: "\x08"}}}, {Unknown: "\x11abcdefgh"}, {Unknown: "\x29abcdefgh"}, {Unknown: "\x32\x00"}, {Unknown: "\x3A\x00"}, {Unknown: "\x40\x00"}, {Unknown: "\x08"}} {
		if text := calls.Invalid(x, 9); text != "" {
			t.Errorf("case %d: %s", i, text)
		}
	}
	for s, code := range map[string]api.Code{"\x11abc": api.ErrShort, "\x32\x03\x09ab": api.ErrShort, "\x3A\x03\x0A\x01\xFF": api.ErrUTF8, "\x32\x01\x07": api.ErrForm, "\x40\xFF\xFF\xFF\xFF\xFF\xFF\xFF\xFF\xFF\x02": api.ErrVarint, "\x3A\x02\x12\x00": api.ErrDepth, "\x32\x02\x0B\x0C": api.ErrDepth} {
		if text := calls.Wrong(s, 1, code); text != "" {
			t.Error(text)
		}
	}
}

// P15.2
func TestNew(t *testing.T) {
	x, _ := summ.Unmarshal("\x32\x00\x3A\x00", 1)
	y, _ := summ.Unmarshal("\x32\x00\x3A\x00", 1)
	x.Attrs[0].Key, x.Quantiles[0].Q = "z", 1
	if !summ.Same(y, api.Summary{Attrs: make([]api.KeyValue, 1), Quantiles: make([]api.Quantile, 1)}) {
		t.Error("one shows what was written into another")
	}
}
