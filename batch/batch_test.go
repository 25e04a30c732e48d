package batch_test

import (
	"slices"
	"strings"
	"testing"

	"hygrometer/api"
	"hygrometer/batch"
	"hygrometer/blame"
	"hygrometer/probe"
	"hygrometer/wire"
)

// calls are those of a batch, at the only depth there is.
var calls = probe.Calls[api.Batch]{
	May:       func(b api.Batch, _ int) bool { return batch.May(b) },
	Size:      batch.Size,
	Marshal:   func(b api.Batch, _ int) (string, error) { return batch.Marshal(b) },
	Unmarshal: func(s string, _ int) (api.Batch, error) { return batch.Unmarshal(s) },
	Same:      batch.Same,
}

var answers = probe.Calls[api.Response]{
	May: func(r api.Response, _ int) bool { return batch.MayAnswer(r) },
	Size: func(r api.Response) int {
		s, _ := batch.Answer(r)
		return len(s)
	},
	Marshal:   func(r api.Response, _ int) (string, error) { return batch.Answer(r) },
	Unmarshal: func(s string, _ int) (api.Response, error) { return batch.ReadAnswer(s) },
	Same:      func(a, b api.Response) bool { return a == b },
}

// res is a batch of one ResourceMetrics.
func res(x api.ResourceMetrics) api.Batch {
	return api.Batch{Resources: []api.ResourceMetrics{x}}
}

// sco is a batch of one ScopeMetrics.
func sco(x api.ScopeMetrics) api.Batch {
	return res(api.ResourceMetrics{Scopes: []api.ScopeMetrics{x}})
}

// point is the point of full, in its list.
const point = "\x0A\x12\x19\x01\x00\x00\x00\x00\x00\x00\x00\x31\x05\x00\x00\x00\x00\x00\x00\x00"

func full() api.Batch {
	m := api.Metric{Name: "m", Kind: 2, Temporality: 1, Numbers: []api.Number{{Time: 1, Kind: 2, N: 5}}}
	s := api.ScopeMetrics{Has: true, Scope: api.Scope{Name: "s"}, Metrics: []api.Metric{{}, m}, Schema: "x", Unknown: "\x20\x01"}
	r := api.ResourceMetrics{Has: true, Resource: api.Resource{Dropped: 1}, Scopes: []api.ScopeMetrics{{}, s}, Schema: "y", Unknown: "\x28\x01"}
	return api.Batch{Resources: []api.ResourceMetrics{{}, r}, Unknown: "\x10\x01"}
}

// nest is a batch whose attribute is nested so deep that one list more may not be.
func nest(extra int) api.Batch {
	x := api.Value{Kind: 5}
	for range 13 + extra {
		x = api.Value{Kind: 5, L: []api.Value{x}}
	}
	return res(api.ResourceMetrics{Has: true, Resource: api.Resource{Attrs: []api.KeyValue{{Has: true, Value: x}}}})
}

// P17.1, P17.4
func TestWritten(t *testing.T) {
	var l []api.Batch
	for i, c := range []struct {
		b api.Batch
		s string
	}{
		{api.Batch{}, ""}, {api.Batch{Unknown: "\x10\x01\x08\x01\x13\x14"}, "\x10\x01\x08\x01\x13\x14"},
		{res(api.ResourceMetrics{}), "\x0A\x00"}, {res(api.ResourceMetrics{Has: true}), "\x0A\x02\x0A\x00"}, {res(api.ResourceMetrics{Schema: "é"}), "\x0A\x04\x1A\x02é"}, {res(api.ResourceMetrics{Unknown: "\x08\x01\x22\x00"}), "\x0A\x04\x08\x01\x22\x00"}, {res(api.ResourceMetrics{Has: true, Resource: api.Resource{Dropped: 2}}), "\x0A\x04\x0A\x02\x10\x02"},
		{sco(api.ScopeMetrics{}), "\x0A\x02\x12\x00"}, {sco(api.ScopeMetrics{Has: true}), "\x0A\x04\x12\x02\x0A\x00"}, {sco(api.ScopeMetrics{Has: true, Scope: api.Scope{Name: "a"}}), "\x0A\x07\x12\x05\x0A\x03\x0A\x01a"}, {sco(api.ScopeMetrics{Metrics: make([]api.Metric, 2)}), "\x0A\x06\x12\x04\x12\x00\x12\x00"}, {sco(api.ScopeMetrics{Schema: "a"}), "\x0A\x05\x12\x03\x1A\x01a"}, {sco(api.ScopeMetrics{Unknown: "\x22\x00"}), "\x0A\x04\x12\x02\x22\x00"},
		{full(), "\x0A\x00\x0A\x36\x0A\x02\x10\x01\x12\x00\x12\x29\x0A\x03\x0A\x01s\x12\x00\x12\x1B\x0A\x01m\x3A\x16" + point + "\x10\x01\x1A\x01x\x20\x01\x1A\x01y\x28\x01\x10\x01"},
	} {
		if s, err := batch.Marshal(c.b); s != c.s || err != nil || !batch.May(c.b) || batch.Size(c.b) != len(c.s) {
			t.Errorf("case %d: % X, %v", i, s, err)
		}
		if text := calls.Read(c.s, 0, c.b); text != "" {
			t.Errorf("case %d: %s", i, text)
		}
		if text := calls.Near(c.s, 0); text != "" {
			t.Errorf("near case %d: %s", i, text)
		}
		l = append(l, c.b)
	}
	if text := calls.Unlike(l); text != "" {
		t.Error(text)
	}
}

// P17.1
func TestRead(t *testing.T) {
	for s, b := range map[string]api.Batch{
		"\x0A\x08\x0A\x02\x10\x01\x0A\x02\x0A\x00":           res(api.ResourceMetrics{Has: true, Resource: api.Resource{Attrs: make([]api.KeyValue, 1), Dropped: 1}}),
		"\x0A\x0A\x12\x08\x0A\x03\x0A\x01a\x0A\x01\x12":      {},
		"\x0A\x0C\x12\x0A\x0A\x03\x0A\x01a\x0A\x03\x12\x01b": sco(api.ScopeMetrics{Has: true, Scope: api.Scope{Name: "a", Version: "b"}}),
		"\x08\x01\x0A\x00\x10\x02\x0A\x03\x1A\x01a":          {Resources: []api.ResourceMetrics{{}, {Schema: "a"}}, Unknown: "\x08\x01\x10\x02"},
	} {
		if len(b.Resources) == 0 {
			if text := calls.Wrong(s, 0, api.ErrShort); text != "" {
				t.Error(text)
			}
		} else if text := calls.Read(s, 0, b); text != "" {
			t.Error(text)
		}
	}
}

// P17.1
func TestWrong(t *testing.T) {
	for i, b := range []api.Batch{
		{Unknown: "\x0A\x00"}, {Unknown: "\x08"}, res(api.ResourceMetrics{Schema: "\xFF"}), res(api.ResourceMetrics{Resource: api.Resource{Dropped: 1}}), res(api.ResourceMetrics{Has: true, Resource: api.Resource{Unknown: "\x0A\x00"}}), res(api.ResourceMetrics{Unknown: "\x0A\x00"}), res(api.ResourceMetrics{Unknown: "\x12\x00"}), res(api.ResourceMetrics{Unknown: "\x1A\x00"}),
		sco(api.ScopeMetrics{Schema: "\xFF"}), sco(api.ScopeMetrics{Scope: api.Scope{Name: "a"}}), sco(api.ScopeMetrics{Has: true, Scope: api.Scope{Name: "\xFF"}}), sco(api.ScopeMetrics{Metrics: []api.Metric{{Kind: 9}}}), sco(api.ScopeMetrics{Unknown: "\x0A\x00"}), sco(api.ScopeMetrics{Unknown: "\x12\x00"}), sco(api.ScopeMetrics{Unknown: "\x1A\x00"}),
		nest(1),
	} {
		if text := calls.Invalid(b, 0); text != "" {
			t.Errorf("case %d: %s", i, text)
		}
	}
	for s, code := range map[string]api.Code{
		"\x0A": api.ErrShort, "\x0A\x03\x1A\x01\xFF": api.ErrUTF8, "\x0A\x05\x12\x03\x1A\x01\xFF": api.ErrUTF8, "\x0A\x01\x07": api.ErrForm, "\x0A\x03\x12\x01\x07": api.ErrForm, "\x0A\x05\x12\x03\x12\x01\x07": api.ErrForm, "\x0A\x03\x0A\x01\x07": api.ErrForm, "\x0A\x05\x12\x03\x0A\x01\x07": api.ErrForm,
		"\x08\xFF\xFF\xFF\xFF\xFF\xFF\xFF\xFF\xFF\x02": api.ErrVarint, strings.Repeat("\x13", 33) + strings.Repeat("\x14", 33): api.ErrDepth,
	} {
		if text := calls.Wrong(s, 0, code); text != "" {
			t.Error(text)
		}
	}
	if !batch.May(nest(0)) {
		t.Error("as deep as may be")
	}
	if s, err := batch.Marshal(nest(0)); err != nil {
		t.Error(err)
	} else if text := calls.Read(s, 0, nest(0)); text != "" {
		t.Error(text)
	}
}

// groups are n groups, one within the other, of a number that no table has, in
// messages of some numbers, one within the other.
func groups(n int, nums ...int) string {
	s := strings.Repeat("\x9B\x06", n) + strings.Repeat("\x9C\x06", n)
	for _, num := range slices.Backward(nums) {
		s = wire.Bytes(num, s)
	}
	return s
}

// P17.1: each message within may be one less deep.
func TestDepths(t *testing.T) {
	metrics := func(m api.Metric) api.Batch { return sco(api.ScopeMetrics{Metrics: []api.Metric{m}}) }
	for i, c := range []struct {
		depth int
		nums  []int
		made  func(s string) api.Batch
	}{
		{32, nil, func(s string) api.Batch { return api.Batch{Unknown: s} }},
		{31, []int{1}, func(s string) api.Batch { return res(api.ResourceMetrics{Unknown: s}) }},
		{30, []int{1, 1}, func(s string) api.Batch {
			return res(api.ResourceMetrics{Has: true, Resource: api.Resource{Unknown: s}})
		}},
		{30, []int{1, 2}, func(s string) api.Batch { return sco(api.ScopeMetrics{Unknown: s}) }},
		{29, []int{1, 2, 1}, func(s string) api.Batch { return sco(api.ScopeMetrics{Has: true, Scope: api.Scope{Unknown: s}}) }},
		{29, []int{1, 2, 2}, func(s string) api.Batch { return metrics(api.Metric{Unknown: s}) }},
		{28, []int{1, 2, 2, 5}, func(s string) api.Batch { return metrics(api.Metric{Kind: 1, Inner: s}) }},
		{27, []int{1, 2, 2, 5, 1}, func(s string) api.Batch { return metrics(api.Metric{Kind: 1, Numbers: []api.Number{{Unknown: s}}}) }},
	} {
		s := groups(c.depth, c.nums...)
		if got, err := batch.Marshal(c.made(groups(c.depth))); got != s || err != nil {
			t.Errorf("case %d: % X, %v", i, got, err)
		}
		if text := calls.Read(s, 0, c.made(groups(c.depth))); text != "" {
			t.Errorf("case %d: %s", i, text)
		}
		if text := calls.Invalid(c.made(groups(c.depth+1)), 0); text != "" {
			t.Errorf("case %d: %s", i, text)
		}
		if text := calls.Wrong(groups(c.depth+1, c.nums...), 0, api.ErrDepth); text != "" {
			t.Errorf("case %d: %s", i, text)
		}
	}
	inner := func(s string) api.Response { return api.Response{Has: true, Inner: s} }
	for _, text := range []string{
		answers.Read(groups(32), 0, api.Response{Unknown: groups(32)}), answers.Wrong(groups(33), 0, api.ErrDepth), answers.Invalid(api.Response{Unknown: groups(33)}, 0),
		answers.Read(groups(31, 1), 0, inner(groups(31))), answers.Wrong(groups(32, 1), 0, api.ErrDepth), answers.Invalid(inner(groups(32)), 0),
	} {
		if text != "" {
			t.Error(text)
		}
	}
}

// P17.1: too many bytes are told behind what may not be.
func TestTooLarge(t *testing.T) {
	b := res(api.ResourceMetrics{Schema: strings.Repeat("a", api.MaxBytes-8)})
	s, err := batch.Marshal(b)
	if err != nil || len(s) != api.MaxBytes || batch.Size(b) != api.MaxBytes {
		t.Error(err, len(s))
	}
	if got, err := batch.Unmarshal(s); err != nil || !batch.Same(got, b) {
		t.Error(err)
	}
	b.Resources[0].Schema += "a"
	if s, err := batch.Marshal(b); s != "" || blame.Code(err) != api.ErrTooLarge || !batch.May(b) || batch.Size(b) != api.MaxBytes+1 {
		t.Error(err, batch.Size(b))
	}
	b.Resources[0].Resource.Dropped = 1
	if s, err := batch.Marshal(b); s != "" || blame.Code(err) != api.ErrInvalid || batch.May(b) {
		t.Error(err)
	}
	if b, err := batch.Unmarshal("\x07" + strings.Repeat("a", api.MaxBytes)); blame.Code(err) != api.ErrTooLarge || !batch.Same(b, api.Batch{}) {
		t.Error(err)
	}
	r := api.Response{Has: true, Message: strings.Repeat("a", api.MaxBytes-8)}
	if s, err := batch.Answer(r); len(s) != api.MaxBytes || err != nil {
		t.Error(len(s), err)
	} else if got, err := batch.ReadAnswer(s); got != r || err != nil {
		t.Error(err)
	}
	r.Message += "a"
	if s, err := batch.Answer(r); s != "" || blame.Code(err) != api.ErrTooLarge || !batch.MayAnswer(r) {
		t.Error(err)
	}
	r.Unknown = "\x0A\x00"
	if s, err := batch.Answer(r); s != "" || blame.Code(err) != api.ErrInvalid || batch.MayAnswer(r) {
		t.Error(err)
	}
	if r, err := batch.ReadAnswer(strings.Repeat("\x07", api.MaxBytes+1)); blame.Code(err) != api.ErrTooLarge || r != (api.Response{}) {
		t.Error(err)
	}
}

// P17.2
func TestCounted(t *testing.T) {
	b := full()
	b.Resources[1].Scopes[0].Metrics = []api.Metric{{Kind: 5, Summaries: make([]api.Summary, 3), Hists: make([]api.Hist, 1)}}
	if batch.Points(b) != 5 || batch.Count(b) != 3 || batch.Points(api.Batch{}) != 0 || batch.Count(api.Batch{}) != 0 {
		t.Error(batch.Points(b), batch.Count(b))
	}
}

// P17.1, P17.4
func TestAnswers(t *testing.T) {
	var l []api.Response
	for i, c := range []struct {
		r api.Response
		s string
	}{
		{api.Response{}, ""}, {api.Response{Unknown: "\x10\x01\x08\x01"}, "\x10\x01\x08\x01"}, {api.Response{Has: true}, "\x0A\x00"}, {api.Response{Has: true, Rejected: 300}, "\x0A\x03\x08\xAC\x02"}, {api.Response{Has: true, Rejected: -1}, "\x0A\x0B\x08\xFF\xFF\xFF\xFF\xFF\xFF\xFF\xFF\xFF\x01"},
		{api.Response{Has: true, Message: "é"}, "\x0A\x04\x12\x02é"}, {api.Response{Has: true, Inner: "\x10\x01\x0A\x00"}, "\x0A\x04\x10\x01\x0A\x00"}, {api.Response{Has: true, Rejected: 1, Message: "m", Inner: "\x18\x01", Unknown: "\x18\x01"}, "\x0A\x07\x08\x01\x12\x01m\x18\x01\x18\x01"},
	} {
		if s, err := batch.Answer(c.r); s != c.s || err != nil || !batch.MayAnswer(c.r) {
			t.Errorf("case %d: % X, %v", i, s, err)
		}
		if text := answers.Read(c.s, 0, c.r); text != "" {
			t.Errorf("case %d: %s", i, text)
		}
		if text := answers.Near(c.s, 0); text != "" {
			t.Errorf("near case %d: %s", i, text)
		}
		l = append(l, c.r)
	}
	if text := answers.Unlike(l); text != "" {
		t.Error(text)
	}
	for i, r := range []api.Response{{Rejected: 1}, {Message: "a"}, {Inner: "\x18\x01"}, {Unknown: "\x0A\x00"}, {Unknown: "\x08"}, {Has: true, Message: "\xFF"}, {Has: true, Inner: "\x08\x01"}, {Has: true, Inner: "\x12\x00"}} {
		if text := answers.Invalid(r, 0); text != "" {
			t.Errorf("case %d: %s", i, text)
		}
	}
	if text := answers.Read("\x0A\x02\x08\x01\x0A\x03\x12\x01a\x0A\x02\x08\x02", 0, api.Response{Has: true, Rejected: 2, Message: "a"}); text != "" {
		t.Error(text)
	}
	for s, code := range map[string]api.Code{"\x0A\x03\x12\x01\xFF": api.ErrUTF8, "\x0A\x01\x08": api.ErrShort, "\x0A\x01\x07": api.ErrForm, "\x07": api.ErrForm} {
		if text := answers.Wrong(s, 0, code); text != "" {
			t.Error(text)
		}
	}
}

// P17.3
func TestNew(t *testing.T) {
	s, _ := batch.Marshal(full())
	x, _ := batch.Unmarshal(s)
	y, _ := batch.Unmarshal(s)
	x.Resources[1].Scopes[1].Metrics[1].Numbers[0].N = 7
	x.Resources[0].Schema = "z"
	if !batch.Same(y, full()) {
		t.Error("one shows what was written into another")
	}
}
