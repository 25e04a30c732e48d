package metric_test

import (
	"testing"

	"hygrometer/api"
	"hygrometer/metric"
	"hygrometer/probe"
)

var calls = probe.Calls[api.Metric]{May: metric.May, Size: metric.Size, Marshal: metric.Marshal, Unmarshal: metric.Unmarshal, Same: metric.Same}

// P16.1, P16.3
func TestWritten(t *testing.T) {
	var l []api.Metric
	for i, c := range []struct {
		x     api.Metric
		depth int
		s     string
	}{
		{api.Metric{}, 0, ""},
		{api.Metric{Name: "é"}, 0, "\x0A\x02é"}, {api.Metric{Desc: "a"}, 0, "\x12\x01a"}, {api.Metric{Unit: "a"}, 0, "\x1A\x01a"},
		{api.Metric{Kind: 1}, 1, "\x2A\x00"}, {api.Metric{Kind: 2}, 1, "\x3A\x00"}, {api.Metric{Kind: 3}, 1, "\x4A\x00"}, {api.Metric{Kind: 4}, 1, "\x52\x00"}, {api.Metric{Kind: 5}, 1, "\x5A\x00"},
		{api.Metric{Kind: 1, Numbers: make([]api.Number, 2)}, 2, "\x2A\x04\x0A\x00\x0A\x00"}, {api.Metric{Kind: 2, Numbers: []api.Number{{Flags: 1}}}, 2, "\x3A\x04\x0A\x02\x40\x01"},
		{api.Metric{Kind: 3, Hists: []api.Hist{{Flags: 1}}}, 2, "\x4A\x04\x0A\x02\x50\x01"}, {api.Metric{Kind: 4, Exps: []api.Exp{{Scale: 1}}}, 2, "\x52\x04\x0A\x02\x30\x02"}, {api.Metric{Kind: 5, Summaries: []api.Summary{{Flags: 1}}}, 2, "\x5A\x04\x0A\x02\x40\x01"},
		{api.Metric{Kind: 2, Temporality: 2, Monotonic: true}, 1, "\x3A\x04\x10\x02\x18\x01"}, {api.Metric{Kind: 3, Temporality: -1}, 1, "\x4A\x0B\x10\xFF\xFF\xFF\xFF\xFF\xFF\xFF\xFF\xFF\x01"}, {api.Metric{Kind: 4, Temporality: 1<<31 - 1}, 1, "\x52\x06\x10\xFF\xFF\xFF\xFF\x07"},
		{api.Metric{Kind: 1, Inner: "\x10\x01\x18\x01\x08\x01"}, 1, "\x2A\x06\x10\x01\x18\x01\x08\x01"}, {api.Metric{Kind: 2, Inner: "\x20\x01\x12\x00"}, 1, "\x3A\x04\x20\x01\x12\x00"}, {api.Metric{Kind: 4, Inner: "\x18\x01"}, 1, "\x52\x02\x18\x01"}, {api.Metric{Kind: 5, Inner: "\x0B\x0C"}, 2, "\x5A\x02\x0B\x0C"},
		{api.Metric{Meta: make([]api.KeyValue, 1)}, 1, "\x62\x00"}, {api.Metric{Unknown: "\x22\x00\x08\x01\x28\x01\x32\x00\x43\x44"}, 1, "\x22\x00\x08\x01\x28\x01\x32\x00\x43\x44"},
		{api.Metric{Name: "n", Desc: "d", Unit: "u", Kind: 2, Temporality: 1, Monotonic: true, Numbers: []api.Number{{}, {Attrs: make([]api.KeyValue, 1)}}, Meta: []api.KeyValue{{Has: true}}, Inner: "\x22\x00", Unknown: "\x68\x01"}, 3,
			"\x0A\x01n\x12\x01d\x1A\x01u\x3A\x0C\x0A\x00\x0A\x02\x3A\x00\x10\x01\x18\x01\x22\x00\x62\x02\x12\x00\x68\x01"},
	} {
		if text := calls.Written(c.x, c.depth, c.s); text != "" {
			t.Errorf("case %d: %s", i, text)
		}
		if text := calls.Near(c.s, 4); text != "" {
			t.Errorf("near case %d: %s", i, text)
		}
		l = append(l, c.x)
	}
	if text := calls.Unlike(l); text != "" {
		t.Error(text)
	}
}

// P16.1: the bytes of the Kind that stands, behind the last ones of another Kind, are one message.
func TestRead(t *testing.T) {
	for s, x := range map[string]api.Metric{
		"\x2A\x02\x0A\x00\x2A\x02\x0A\x00":                          {Kind: 1, Numbers: make([]api.Number, 2)},
		"\x2A\x02\x0A\x00\x3A\x02\x10\x01\x2A\x00":                  {Kind: 1},
		"\x3A\x02\x10\x01\x0A\x01n\x3A\x02\x18\x01\x3A\x02\x10\x02": {Name: "n", Kind: 2, Temporality: 2, Monotonic: true},
		"\x4A\x01\xFF\x5A\x00":                                      {Kind: 5},
		"\x4A\x01\x10\x4A\x01\x02":                                  {Kind: 3, Temporality: 2},
		"\x3A\x04\x18\x05\x18\x00\x22\x00":                          {Kind: 2, Unknown: "\x22\x00"},
		"\x29abcdefgh\x0A\x01a\x62\x00\x0A\x01b\x62\x03\x0A\x01k":   {Name: "b", Meta: []api.KeyValue{{}, {Key: "k"}}, Unknown: "\x29abcdefgh"},
		"\x4A\x06\x10\x82\x80\x80\x80\x10":                          {Kind: 3, Temporality: 2},
	} {
		if text := calls.Read(s, 3, x); text != "" {
			t.Error(text)
		}
	}
}

// P16.1
func TestWrong(t *testing.T) {
	for i, x := range []api.Metric{
		{Kind: 6}, {Kind: -1}, {Kind: 1 << 62}, {Name: "\xFF"}, {Desc: "\xFF"}, {Unit: "\xFF"}, {Meta: []api.KeyValue{{Key: "\xFF"}}},
		{Numbers: make([]api.Number, 1)}, {Hists: make([]api.Hist, 1)}, {Exps: make([]api.Exp, 1)}, {Summaries: make([]api.Summary, 1)}, {Temporality: 1}, {Monotonic: true}, {Inner: "\x20\x01"},
		{Kind: 1, Temporality: 1}, {Kind: 1, Monotonic: true}, {Kind: 1, Hists: make([]api.Hist, 1)}, {Kind: 2, Exps: make([]api.Exp, 1)}, {Kind: 3, Numbers: make([]api.Number, 1)}, {Kind: 3, Monotonic: true}, {Kind: 4, Monotonic: true}, {Kind: 4, Summaries: make([]api.Summary, 1)}, {Kind: 5, Temporality: 1}, {Kind: 5, Numbers: make([]api.Number, 1)}, {Kind: 5, Monotonic: true},
		{Kind: 1, Inner: "\x0A\x00"}, {Kind: 2, Inner: "\x10\x00"}, {Kind: 2, Inner: "\x18\x00"}, {Kind: 3, Inner: "\x10\x00"}, {Kind: 4, Inner: "\x10\x00"}, {Kind: 5, Inner: "\x0A\x00"}, {Kind: 5, Inner: "\x08"},
		{Kind: 1, Numbers: []api.Number{{Kind: 7}}}, {Kind: 2, Numbers: []api.Number{{}, {N: 7}}}, {Kind: 3, Hists: []api.Hist{{Sum: api.Opt{N: 1}}}}, {Kind: 4, Exps: []api.Exp{{Sum: api.Opt{N: 1}}}}, {Kind: 5, Summaries: []api.Summary{{Unknown: "\x40\x00"}}},
		{Unknown: "\x0A\x00"}, {Unknown: "\x12\x00"}, {Unknown: "\x1A\x00"}, {Unknown: "\x2A\x00"}, {Unknown: "\x3A\x00"}, {Unknown: "\x4A\x00"}, {Unknown: "\x52\x00"}, {Unknown: "\x5A\x00"}, {Unknown: "\x62\x00"}, {Unknown: "\x08"},
	} {
		if text := calls.Invalid(x, 9); text != "" {
			t.Errorf("case %d: %s", i, text)
		}
	}
	for s, code := range map[string]api.Code{"\x0A\x01\xFF\x0A\x00": api.ErrUTF8, "\x1A\x01\xFF": api.ErrUTF8, "\x12\x01\xFF": api.ErrUTF8, "\x2A\x01\x0A": api.ErrShort, "\x3A\x05\x0A\x03\x11ab": api.ErrShort, "\x62\x03\x0A\x01\xFF": api.ErrUTF8, "\x4A\x01\x07": api.ErrForm, "\x52\x0B\x10\xFF\xFF\xFF\xFF\xFF\xFF\xFF\xFF\xFF\x02": api.ErrVarint, "\x5A\x04\x0A\x02\x3A\x00": api.ErrDepth, "\x2A\x04\x0B\x13\x14\x0C": api.ErrDepth} {
		if text := calls.Wrong(s, 2, code); text != "" {
			t.Error(text)
		}
	}
}

// P16.1
func TestPoints(t *testing.T) {
	x := api.Metric{Kind: 5, Numbers: make([]api.Number, 1), Hists: make([]api.Hist, 2), Exps: make([]api.Exp, 4), Summaries: make([]api.Summary, 8)}
	if metric.Points(x) != 15 || metric.Points(api.Metric{}) != 0 {
		t.Error(metric.Points(x))
	}
}

// P16.2
func TestNew(t *testing.T) {
	x, _ := metric.Unmarshal("\x2A\x04\x0A\x00\x0A\x00\x62\x00", 2)
	y, _ := metric.Unmarshal("\x2A\x04\x0A\x00\x0A\x00\x62\x00", 2)
	x.Numbers[0].Time, x.Meta[0].Key = 1, "z"
	if !metric.Same(y, api.Metric{Kind: 1, Numbers: make([]api.Number, 2), Meta: make([]api.KeyValue, 1)}) {
		t.Error("one shows what was written into another")
	}
}
