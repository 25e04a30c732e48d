package check_test

import (
	"math"
	"testing"

	"hygrometer/api"
	"hygrometer/batch"
	"hygrometer/check"
)

var f = math.Float64bits

const nan, inf = 0x7FF8000000000001, 0x7FF0000000000000

func opt(x float64) api.Opt { return api.Opt{Has: true, N: f(x)} }

// P18.1
func TestMetric(t *testing.T) {
	for i, c := range []struct {
		m      api.Metric
		reason int
	}{
		{api.Metric{}, check.NoName}, {api.Metric{Kind: 2}, check.NoName}, {api.Metric{Name: "a"}, check.NoKind}, {api.Metric{Name: "a", Kind: 6, Temporality: 1}, check.NoKind}, {api.Metric{Name: "a", Kind: -1}, check.NoKind},
		{api.Metric{Name: "a", Kind: 1}, check.Fine}, {api.Metric{Name: "a", Kind: 5}, check.Fine}, {api.Metric{Name: "a", Kind: 1, Temporality: 9}, check.Fine},
		{api.Metric{Name: "a", Kind: 2}, check.NoTemporality}, {api.Metric{Name: "a", Kind: 3, Temporality: 3}, check.NoTemporality}, {api.Metric{Name: "a", Kind: 4, Temporality: -1}, check.NoTemporality},
		{api.Metric{Name: "a", Kind: 2, Temporality: 1}, check.Fine}, {api.Metric{Name: "a", Kind: 3, Temporality: 2}, check.Fine}, {api.Metric{Name: "a", Kind: 4, Temporality: 1}, check.Fine},
	} {
		if got := check.Metric(c.m); got != c.reason {
			t.Errorf("case %d: %s", i, check.Name(got))
		}
	}
}

// P18.2: what is asked of all points, of each kind, and in which order.
func TestAllPoints(t *testing.T) {
	twice := []api.KeyValue{{Key: "a"}, {Key: "b"}, {Key: "a"}}
	for i, c := range []struct {
		start, time uint64
		attrs       []api.KeyValue
		reason      int
	}{{0, 0, nil, check.NoTime}, {1, 0, twice, check.NoTime}, {2, 1, twice, check.Order}, {1, 1, twice, check.Twice}} {
		for j, got := range []int{
			check.Number(api.Number{Start: c.start, Time: c.time, Attrs: c.attrs}),
			check.Hist(api.Hist{Start: c.start, Time: c.time, Attrs: c.attrs, Bounds: []uint64{1}}),
			check.Exp(api.Exp{Start: c.start, Time: c.time, Attrs: c.attrs, Count: 1}),
			check.Summary(api.Summary{Start: c.start, Time: c.time, Attrs: c.attrs, Quantiles: []api.Quantile{{Q: nan}}}),
		} {
			if got != c.reason {
				t.Errorf("case %d, kind %d: %s", i, j, check.Name(got))
			}
		}
	}
	if check.Number(api.Number{Start: 1, Time: 1, Kind: 1, Attrs: twice[:2]}) != check.Fine {
		t.Error("one that is fine")
	}
}

// P18.2
func TestNumber(t *testing.T) {
	for i, c := range []struct {
		x      api.Number
		reason int
	}{{api.Number{}, check.NoTime}, {api.Number{Time: 1}, check.NoValue}, {api.Number{Time: 1, Flags: 2}, check.NoValue}, {api.Number{Time: 1, Flags: 1}, check.Fine}, {api.Number{Time: 1, Flags: 7}, check.Fine}, {api.Number{Time: 1, Kind: 1}, check.Fine}, {api.Number{Time: 1, Kind: 2}, check.Fine}} {
		if got := check.Number(c.x); got != c.reason {
			t.Errorf("case %d: %s", i, check.Name(got))
		}
	}
}

// P18.2
func TestHist(t *testing.T) {
	for i, c := range []struct {
		x      api.Hist
		reason int
	}{
		{api.Hist{}, check.Fine}, {api.Hist{Count: 5}, check.Fine}, {api.Hist{Count: 5, Counts: []uint64{5}}, check.Fine}, {api.Hist{Count: 5, Counts: []uint64{4}}, check.Total}, {api.Hist{Counts: []uint64{0, 0}}, check.Total}, {api.Hist{Bounds: []uint64{0}}, check.Total}, {api.Hist{Counts: []uint64{1}}, check.Total},
		{api.Hist{Count: 1, Counts: []uint64{1 << 63, 1 << 63, 1}, Bounds: []uint64{1, 2}}, check.Total}, {api.Hist{Count: 0, Counts: []uint64{1 << 63, 1 << 63}, Bounds: []uint64{nan}}, check.Total}, {api.Hist{Count: 1<<64 - 1, Counts: []uint64{1 << 63, 1<<63 - 1}, Bounds: []uint64{0}}, check.Fine},
		{api.Hist{Counts: make([]uint64, 2), Bounds: []uint64{nan}}, check.Bounds}, {api.Hist{Counts: make([]uint64, 2), Bounds: []uint64{inf}}, check.Fine}, {api.Hist{Counts: make([]uint64, 3), Bounds: []uint64{f(1), f(1)}}, check.Bounds}, {api.Hist{Counts: make([]uint64, 3), Bounds: []uint64{1 << 63, 0}}, check.Bounds}, {api.Hist{Counts: make([]uint64, 3), Bounds: []uint64{f(-1), nan}}, check.Bounds}, {api.Hist{Counts: make([]uint64, 3), Bounds: []uint64{nan, f(1)}}, check.Bounds}, {api.Hist{Counts: make([]uint64, 4), Bounds: []uint64{f(1), f(3), f(2)}}, check.Bounds}, {api.Hist{Counts: make([]uint64, 4), Bounds: []uint64{f(-3), f(2), inf}}, check.Fine},
		{api.Hist{Min: opt(2), Max: opt(1)}, check.Range}, {api.Hist{Min: opt(1), Max: opt(1)}, check.Fine}, {api.Hist{Min: opt(2), Max: api.Opt{N: f(1)}}, check.Fine}, {api.Hist{Min: api.Opt{N: f(2)}, Max: opt(1)}, check.Fine}, {api.Hist{Min: api.Opt{Has: true, N: nan}, Max: opt(1)}, check.Fine},
		{api.Hist{Count: 1, Counts: []uint64{0, 0}, Bounds: []uint64{nan}, Min: opt(2), Max: opt(1)}, check.Total}, {api.Hist{Counts: []uint64{0, 0}, Bounds: []uint64{nan}, Min: opt(2), Max: opt(1)}, check.Bounds},
	} {
		c.x.Time = 1
		if got := check.Hist(c.x); got != c.reason {
			t.Errorf("case %d: %s", i, check.Name(got))
		}
	}
}

// P18.2
func TestExp(t *testing.T) {
	side := func(offset int32, counts ...uint64) api.Buckets { return api.Buckets{Offset: offset, Counts: counts} }
	for i, c := range []struct {
		x      api.Exp
		reason int
	}{
		{api.Exp{}, check.Fine}, {api.Exp{Count: 1}, check.Total}, {api.Exp{Zero: 1}, check.Total}, {api.Exp{Count: 6, Zero: 1, Pos: side(0, 2), Neg: side(0, 3)}, check.Fine}, {api.Exp{Count: 1, Zero: 1, Pos: side(0, 2)}, check.Total}, {api.Exp{Count: 1, Zero: 1<<64 - 1, HasNeg: true, Neg: side(0, 2)}, check.Total},
		{api.Exp{Scale: 21}, check.Scale}, {api.Exp{Scale: -11}, check.Scale}, {api.Exp{Scale: 20}, check.Fine}, {api.Exp{Scale: -10}, check.Fine}, {api.Exp{Scale: math.MinInt32}, check.Scale},
		{api.Exp{Pos: side(math.MaxInt32, 0)}, check.Fine}, {api.Exp{Pos: side(math.MaxInt32, 0, 0)}, check.Scale}, {api.Exp{Neg: side(math.MaxInt32-1, 0, 0, 0)}, check.Scale}, {api.Exp{Neg: side(math.MaxInt32)}, check.Fine}, {api.Exp{Neg: side(math.MinInt32)}, check.Fine},
		{api.Exp{Min: opt(2), Max: opt(1)}, check.Range}, {api.Exp{Threshold: nan}, check.Range}, {api.Exp{Threshold: f(-1)}, check.Range}, {api.Exp{Threshold: 1 << 63}, check.Fine}, {api.Exp{Threshold: inf}, check.Fine},
		{api.Exp{Count: 1, Scale: 30, Threshold: nan}, check.Total}, {api.Exp{Scale: 30, Threshold: nan}, check.Scale},
	} {
		c.x.Time = 1
		if got := check.Exp(c.x); got != c.reason {
			t.Errorf("case %d: %s", i, check.Name(got))
		}
	}
}

// P18.2
func TestSummary(t *testing.T) {
	for q, reason := range map[uint64]int{0: check.Fine, 1 << 63: check.Fine, f(1): check.Fine, f(0.5): check.Fine, f(1) + 1: check.Range, 1<<63 + 1: check.Range, nan: check.Range, inf: check.Range, f(-1): check.Range} {
		x := api.Summary{Time: 1, Quantiles: []api.Quantile{{Q: f(0.5), V: nan}, {Q: q}}}
		if got := check.Summary(x); got != reason {
			t.Errorf("%X: %s", q, check.Name(got))
		}
	}
}

func good() api.Metric {
	return api.Metric{Name: "a", Kind: 1, Numbers: []api.Number{{Time: 1, Kind: 2, N: 7}}}
}

// P18.3
func TestPoint(t *testing.T) {
	m := good()
	m.Numbers = append(m.Numbers, api.Number{})
	m.Hists = make([]api.Hist, 1)
	for i, reason := range map[int]int{0: check.Fine, 1: check.NoTime, 2: check.NoValue, 3: check.NoValue, -1: check.NoValue, math.MinInt: check.NoValue, math.MaxInt: check.NoValue} {
		if got := check.Point(m, i); got != reason {
			t.Errorf("point %d: %s", i, check.Name(got))
		}
	}
	for kind, reason := range []int{check.NoKind, check.Fine, check.NoTemporality, check.NoTemporality, check.NoTemporality, check.Range, check.NoKind} {
		m := api.Metric{Name: "a", Kind: kind, Numbers: []api.Number{{Time: 1, Kind: 1}}, Summaries: []api.Summary{{Time: 1, Quantiles: []api.Quantile{{Q: nan}}}}}
		if got := check.Point(m, 0); got != reason {
			t.Errorf("of kind %d: %s", kind, check.Name(got))
		}
	}
	for kind, want := range map[int]int{2: check.NoValue, 3: check.Total, 4: check.Scale} {
		m := api.Metric{Name: "a", Kind: kind, Temporality: 1, Numbers: []api.Number{{Time: 1}}, Hists: []api.Hist{{Time: 1, Bounds: []uint64{1}}}, Exps: []api.Exp{{Time: 1, Scale: 99}}}
		if got := check.Point(m, 0); got != want {
			t.Errorf("of kind %d: %s", kind, check.Name(got))
		}
	}
	if [...]int{check.Fine, check.NoName, check.NoKind, check.NoTemporality, check.NoTime, check.Order, check.Twice, check.NoValue, check.Total, check.Bounds, check.Scale, check.Range} != [...]int{0, 1, 2, 3, 4, 5, 6, 7, 8, 9, 10, 11} {
		t.Error("the constants")
	}
	names := []string{"fine", "no name", "no kind", "no temporality", "no time", "order", "twice", "no value", "total", "bounds", "scale", "range", "?", "?"}
	for reason, name := range names {
		if check.Name(reason) != name {
			t.Error(reason, check.Name(reason))
		}
	}
	if check.Name(-1) != "?" || check.Name(math.MinInt) != "?" || check.Name(math.MaxInt) != "?" {
		t.Error("names of none")
	}
}

func wrap(l ...api.Metric) api.Batch {
	s := api.ScopeMetrics{Has: true, Scope: api.Scope{Name: "s"}, Metrics: l, Schema: "x", Unknown: "\x20\x01"}
	r := api.ResourceMetrics{Has: true, Resource: api.Resource{Attrs: make([]api.KeyValue, 1)}, Scopes: []api.ScopeMetrics{s}, Schema: "y", Unknown: "\x20\x02"}
	return api.Batch{Resources: []api.ResourceMetrics{{}, r}, Unknown: "\x20\x03"}
}

// P18.3, P18.5
func TestSplit(t *testing.T) {
	fine := api.Number{Time: 1, Kind: 2, N: 7}
	point := func(kind int) api.Metric {
		return api.Metric{Name: "a", Desc: "d", Unit: "u", Kind: kind, Temporality: 2, Meta: make([]api.KeyValue, 2), Inner: "\x40\x01", Unknown: "\x40\x02"}
	}
	sum, hists, exps, summaries := point(2), point(3), point(4), point(5)
	sum.Numbers = []api.Number{fine, {Start: 2, Time: 1}, fine, {}}
	hists.Hists = []api.Hist{{}, {Time: 2}}
	exps.Exps = []api.Exp{{Time: 3}, {}}
	summaries.Summaries = []api.Summary{{Time: 4}, {}, {Time: 5}}
	nameless := good()
	nameless.Name = ""
	other := good()
	other.Exps = make([]api.Exp, 2)
	all := wrap(sum, hists, exps, summaries, nameless, other)

	sum.Numbers, hists.Hists, exps.Exps, summaries.Summaries = []api.Number{fine, fine}, hists.Hists[1:], exps.Exps[:1], []api.Summary{{Time: 4}, {Time: 5}}
	nameless.Numbers, other.Exps = nil, nil
	want := wrap(sum, hists, exps, summaries, nameless, other)

	got, left, reason := check.Split(all)
	if !batch.Same(got, want) || left != 8 || reason != check.Order {
		t.Errorf("%+v, %d, %s", got, left, check.Name(reason))
	}
	if again, left, reason := check.Split(got); !batch.Same(again, want) || left != 0 || reason != check.Fine {
		t.Error("again:", left, reason)
	}
	if got, left, reason := check.Split(wrap(nameless, other)); left != 0 || reason != check.Fine || batch.Count(got) != 2 {
		t.Error("metrics stay:", left, reason)
	}
	other.Exps = make([]api.Exp, 1)
	if _, left, reason := check.Split(wrap(other)); left != 1 || reason != check.NoValue {
		t.Error("lists that the Kind does not name:", left, reason)
	}
	kindless := api.Metric{Name: "a", Hists: make([]api.Hist, 2), Summaries: make([]api.Summary, 1)}
	if got, left, reason := check.Split(wrap(kindless)); left != 3 || reason != check.NoKind || batch.Points(got) != 0 {
		t.Error("without a Kind:", left, reason)
	}
	if got, left, reason := check.Split(api.Batch{}); left != 0 || reason != 0 || !batch.Same(got, api.Batch{}) {
		t.Error("of nothing")
	}
}

// P18.4
func TestNew(t *testing.T) {
	full := func() api.Batch {
		m := good()
		m.Meta = make([]api.KeyValue, 1)
		b := wrap(m)
		b.Resources[1].Scopes[0].Scope.Attrs = make([]api.KeyValue, 1)
		return b
	}
	b := full()
	got, _, _ := check.Split(b)
	got.Resources[1].Resource.Attrs[0].Key = "z"
	got.Resources[1].Scopes[0].Metrics[0].Numbers[0].N = 1
	got.Resources[1].Scopes[0].Metrics[0].Meta[0].Key = "z"
	got.Resources[1].Scopes[0].Scope.Attrs[0].Key = "z"
	got.Resources[1].Scopes[0].Schema = "z"
	if !batch.Same(b, full()) {
		t.Error("what is answered shares memory")
	}
}
