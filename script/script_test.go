package script_test

import (
	"math"
	"math/rand"
	"slices"
	"testing"

	"hygrometer/api"
	"hygrometer/batch"
	"hygrometer/metric"
	"hygrometer/script"
	"hygrometer/session"
)

var f = math.Float64bits

func attrs(n uint64) []api.KeyValue {
	return []api.KeyValue{{Key: "k", Has: true, Value: api.Value{Kind: 3, N: n}}}
}

// P28.1
func TestMetric(t *testing.T) {
	for i, c := range []struct {
		k, a, b, c int
		m          api.Metric
	}{
		{0, 0, 0, 0, api.Metric{Name: "m0"}}, {1, 5, 1, 1, api.Metric{Name: "m1", Kind: 1}}, {2, 6, 1, 1, api.Metric{Name: "m2", Kind: 2, Temporality: 2, Monotonic: true}}, {8, 7, 4, 2, api.Metric{Name: "m3", Kind: 2, Temporality: 1}}, {2, 0, 0, 3, api.Metric{Name: "m0", Kind: 2, Temporality: 1, Monotonic: true}}, {2, 0, 3, 4, api.Metric{Name: "m0", Kind: 2, Temporality: 2}},
		{3, 0, 3, 1, api.Metric{Name: "m0", Kind: 3, Temporality: 2}}, {4, 0, 0, 1, api.Metric{Name: "m0", Kind: 4, Temporality: 1}}, {5, 0, 1, 1, api.Metric{Name: "m0", Kind: 5}}, {6, 0, 1, 1, api.Metric{Name: "m0"}},
		{-4, -1, -1, -1, api.Metric{Name: "m0"}}, {2, math.MinInt, math.MinInt, math.MinInt, api.Metric{Name: "m0", Kind: 2, Temporality: 1}}, {math.MaxInt, math.MaxInt, math.MaxInt, math.MaxInt, api.Metric{Name: "m3", Kind: 1}},
	} {
		if got := script.Metric(c.k, c.a, c.b, c.c); !metric.Same(got, c.m) {
			t.Errorf("case %d: %+v", i, got)
		}
	}
}

// P28.1
func TestPoint(t *testing.T) {
	const big = math.MaxInt
	for i, c := range []struct {
		kind, a, b, c int
		m             api.Metric
	}{
		{1, 0, 0, 0, api.Metric{Numbers: []api.Number{{Time: 1, Kind: 2}}}},
		{2, 1, 18, 7, api.Metric{Numbers: []api.Number{{Attrs: attrs(1), Start: 2, Time: 6, Kind: 1, N: f(7)}}}},
		{2, 2, 15, 9, api.Metric{Numbers: []api.Number{{Attrs: attrs(2), Start: 15, Time: 17, Kind: 2, N: 9}}}},
		{1, -1, -1, -1, api.Metric{Numbers: []api.Number{{Time: 1, Kind: 2}}}},
		{1, big - 1, big, big, api.Metric{Numbers: []api.Number{{Start: 15, Time: 19, Kind: 2, N: big}}}},
		{1, big, big, big, api.Metric{Numbers: []api.Number{{Attrs: attrs(1), Start: 15, Time: 19, Kind: 1, N: f(0x1p63)}}}},
		{3, 6, 7, 8, api.Metric{Hists: []api.Hist{{Start: 7, Time: 8, Count: 5, Counts: []uint64{3, 2}, Bounds: []uint64{f(2)}}}}},
		{3, 4, 1, 9, api.Metric{Hists: []api.Hist{{Attrs: attrs(1), Start: 1, Time: 3, Count: 5, Counts: []uint64{4, 1}, Bounds: []uint64{0}}}}},
		{3, 5, 0, 10, api.Metric{Hists: []api.Hist{{Attrs: attrs(2), Time: 3, Sum: api.Opt{Has: true, N: f(10)}, Counts: []uint64{0, 0}, Bounds: []uint64{f(1)}}}}},
		{4, 5, 33, 6, api.Metric{Exps: []api.Exp{{Attrs: attrs(2), Start: 1, Time: 4, Count: 4, Scale: 2, Zero: 1, HasPos: true, Pos: api.Buckets{Offset: -15, Counts: []uint64{2, 1}}}}}},
		{4, 0, 31, 5, api.Metric{Exps: []api.Exp{{Start: 15, Time: 17, Count: 3, Scale: 1, HasPos: true, Pos: api.Buckets{Offset: 15, Counts: []uint64{0, 3}}}}}},
		{5, 1, 300, 4, api.Metric{Summaries: []api.Summary{{Attrs: attrs(1), Start: 12, Time: 13, Count: 4, Sum: f(300)}}}},
		{0, 1, 2, 3, api.Metric{}}, {6, 1, 2, 3, api.Metric{}}, {-1, 1, 2, 3, api.Metric{}}, {math.MinInt, 1, 2, 3, api.Metric{}}, {math.MaxInt, 1, 2, 3, api.Metric{}},
	} {
		c.m.Kind, c.m.Name, c.m.Meta = c.kind, "x", attrs(5)
		if got := script.Point(api.Metric{Name: "x", Kind: c.kind, Meta: attrs(5)}, c.a, c.b, c.c); !metric.Same(got, c.m) {
			t.Errorf("case %d: %+v", i, got)
		}
	}
	m := api.Metric{Kind: 1, Numbers: append(make([]api.Number, 0, 4), api.Number{Time: 9}), Hists: make([]api.Hist, 1)}
	got := script.Point(script.Point(m, 0, 0, 0), 0, 0, 4)
	if len(got.Numbers) != 3 || got.Numbers[0].Time != 9 || got.Numbers[2].N != 4 || len(got.Hists) != 1 {
		t.Errorf("one more: %+v", got)
	}
	got.Numbers[0].Time = 5
	if m.Numbers[0].Time != 9 || m.Numbers[:2][1].Time != 0 {
		t.Error("what was handed in was changed")
	}
}

func one(l ...api.Metric) []api.ScopeMetrics { return []api.ScopeMetrics{{Metrics: l}} }

// P28.2
func TestBatch(t *testing.T) {
	sum, hist := script.Metric(2, 1, 2, 3), script.Metric(3, 4, 5, 6)
	for i, c := range []struct {
		b    []byte
		want []api.ResourceMetrics
	}{
		{nil, nil}, {[]byte{0, 1, 2}, nil},
		{[]byte{0, 1, 2, 3}, []api.ResourceMetrics{{Scopes: one(script.Metric(0, 1, 2, 3))}}},
		{[]byte{16, 1, 2, 3, 9, 9, 9}, []api.ResourceMetrics{{Scopes: one(script.Point(sum, 1, 2, 3))}}},
		{[]byte{17, 1, 2, 3}, []api.ResourceMetrics{{Scopes: one(script.Point(sum, 1, 2, 3))}}},
		{[]byte{16, 1, 2, 3, 25, 4, 5, 6}, []api.ResourceMetrics{{Scopes: one(script.Point(script.Point(sum, 1, 2, 3), 4, 5, 6))}}},
		{[]byte{16, 1, 2, 3, 26, 4, 5, 6}, []api.ResourceMetrics{{Scopes: one(script.Point(sum, 1, 2, 3), script.Point(hist, 4, 5, 6))}}},
		{[]byte{6, 0, 1, 1, 14, 13, 1, 1, 6, 15, 0, 0, 6, 4, 0, 0}, []api.ResourceMetrics{{}, {Schema: "3"}, {Schema: "5"}, {}}},
		{[]byte{56, 1, 2, 3}, []api.ResourceMetrics{{Scopes: one(script.Point(script.Metric(7, 1, 2, 3), 1, 2, 3))}}},
		{[]byte{7, 0, 1, 1, 15, 19, 1, 1, 7, 5, 0, 0, 7, 4, 0, 0}, []api.ResourceMetrics{{Scopes: []api.ScopeMetrics{{}, {Has: true, Scope: api.Scope{Name: "9"}}, {Has: true, Scope: api.Scope{Name: "5"}}, {}}}}},
		{[]byte{6, 1, 0, 0, 16, 1, 2, 3, 7, 3, 0, 0, 27, 4, 5, 6, 6, 2, 0, 0, 7, 2, 0, 0}, []api.ResourceMetrics{
			{Schema: "1", Scopes: []api.ScopeMetrics{{Metrics: []api.Metric{script.Point(sum, 1, 2, 3)}}, {Has: true, Scope: api.Scope{Name: "3"}, Metrics: []api.Metric{script.Point(hist, 4, 5, 6)}}}},
			{Scopes: []api.ScopeMetrics{{}}},
		}},
	} {
		if got := script.Batch(c.b); !batch.Same(got, api.Batch{Resources: c.want}) {
			t.Errorf("case %d: %+v", i, got)
		}
	}
	many := slices.Repeat([]byte{16, 1, 2, 3}, 301)
	if got := script.Batch(many); batch.Points(got) != 300 || batch.Count(got) != 300 {
		t.Error("300 at most:", batch.Points(got))
	}
}

// P28.5
func TestBatchesMayBe(t *testing.T) {
	rnd := rand.New(rand.NewSource(28))
	for range 400 {
		b := make([]byte, rnd.Intn(1400))
		rnd.Read(b)
		x := script.Batch(b)
		if !batch.May(x) || batch.Size(x) > api.MaxBytes {
			t.Fatalf("% X", b)
		}
	}
}

// P28.3
func TestConfig(t *testing.T) {
	for i, c := range []struct {
		l    [4]int
		want session.Config
	}{
		{[4]int{}, session.Config{Streams: 1, Buckets: 1, Ticks: 1}}, {[4]int{4, 7, 15, 3}, session.Config{Way: 1, Packed: true, Streams: 8, Buckets: 16, Ticks: 4}}, {[4]int{5, 8, 16, 4}, session.Config{Way: 2, Streams: 1, Buckets: 1, Ticks: 1}}, {[4]int{2, 3, 1, 2}, session.Config{Way: 2, Packed: true, Streams: 4, Buckets: 2, Ticks: 3}}, {[4]int{0, 4, 0, 0}, session.Config{Streams: 5, Buckets: 1, Ticks: 1}}, {[4]int{-1, -1, -1, -1}, session.Config{Streams: 1, Buckets: 1, Ticks: 1}},
		{[4]int{math.MaxInt, math.MaxInt, math.MaxInt, math.MaxInt}, session.Config{Way: 1, Packed: true, Streams: 8, Buckets: 16, Ticks: 4}},
	} {
		if got := script.Config(c.l[0], c.l[1], c.l[2], c.l[3]); got != c.want {
			t.Errorf("case %d: %+v", i, got)
		}
	}
}

func request(b ...byte) string {
	s, _ := batch.Marshal(script.Batch(b))
	return s
}

// P28.3
func TestSteps(t *testing.T) {
	if [...]int{script.Ingest, script.Tick, script.Flush} != [...]int{1, 2, 3} {
		t.Error("the constants")
	}
	cut := request(16, 1, 2, 3)
	for i, c := range []struct {
		b    []byte
		want []script.Step
	}{
		{nil, nil}, {[]byte{0, 8, 1, 9}, []script.Step{{Kind: script.Tick}, {Kind: script.Tick}, {Kind: script.Flush}, {Kind: script.Flush}}},
		{[]byte{4, 16, 1, 2, 3, 0}, []script.Step{{Kind: script.Ingest, Bytes: request(16, 1, 2, 3)}, {Kind: script.Tick}}},
		{[]byte{5, 16, 1, 2, 3, 0, 1}, []script.Step{{Kind: script.Ingest, Bytes: request(16, 1, 2, 3)}, {Kind: script.Flush}}},
		{[]byte{7, 16, 1, 2, 3, 0, 1, 0, 1}, []script.Step{{Kind: script.Ingest, Bytes: cut[:len(cut)-1]}, {Kind: script.Flush}}},
		{append(append([]byte{15}, slices.Repeat([]byte{16, 1, 2, 3}, 3)...), 9, 9, 9, 0), []script.Step{{Kind: script.Ingest, Bytes: func() string { s := request(slices.Repeat([]byte{16, 1, 2, 3}, 3)...); return s[:len(s)-1] }()}, {Kind: script.Tick}}},
		{[]byte{7, 0, 0, 0}, []script.Step{{Kind: script.Ingest}}}, {[]byte{2}, []script.Step{{Kind: script.Ingest}}}, {[]byte{6, 16, 1, 2, 3}, []script.Step{{Kind: script.Ingest, Bytes: request(16, 1, 2, 3)}}},
	} {
		if got := script.Steps(c.b); !slices.Equal(got, c.want) {
			t.Errorf("case %d: %+v", i, got)
		}
	}
	if got := script.Steps(make([]byte, 300)); len(got) != 200 {
		t.Error("200 at most:", len(got))
	}
}

// P28.4
func TestRun(t *testing.T) {
	if got := script.Run(nil, []script.Step{{Kind: script.Tick}}); len(got) != 0 {
		t.Error("without a session:", got)
	}
	s, err := session.New(script.Config(1, 0, 0, 0))
	if err != nil {
		t.Fatal(err)
	}
	in := request(16, 0, 2, 3) // a point from 2 to 6, of 3
	steps := []script.Step{{Kind: script.Ingest, Bytes: in}, {Kind: script.Ingest, Bytes: in}, {Kind: script.Ingest, Bytes: in[:len(in)-1]}, {Kind: script.Ingest}, {Kind: script.Flush}, {Kind: script.Flush}, {Kind: script.Tick}, {Kind: script.Tick}, {}, {Kind: 4}, {Kind: -1}}
	want := []string{"answer ", "answer 0a13080112" + "0f" + "3120706f696e74733a20656c646572" /* 1 points: elder */, "error 1", "answer ", "", "flush 0", "tick 1", "tick 0", "?", "?", "?"}
	got := script.Run(s, steps)
	b := script.Batch([]byte{16, 0, 2, 3})
	b.Resources[0].Scopes[0].Metrics[0].Temporality = 2
	text, _ := batch.Marshal(b)
	want[4] = "flush 0 "
	for i := range len(text) {
		want[4] += string("0123456789abcdef"[text[i]>>4]) + string("0123456789abcdef"[text[i]&15])
	}
	if !slices.Equal(got, want) {
		t.Errorf("%q, not %q", got, want)
	}
	if got := script.Run(s, nil); len(got) != 0 {
		t.Error("of no steps:", got)
	}
}

// P28.4, P27.6: scripts are played alike again and again.
func TestPlayed(t *testing.T) {
	rnd := rand.New(rand.NewSource(29))
	for range 300 {
		b := make([]byte, rnd.Intn(3000))
		rnd.Read(b)
		c := script.Config(rnd.Intn(9), rnd.Intn(9), rnd.Intn(20), rnd.Intn(9))
		var played [2][]string
		for i := range played {
			s, err := session.New(c)
			if err != nil {
				t.Fatal(err)
			}
			played[i] = script.Run(s, script.Steps(b))
		}
		if !slices.Equal(played[0], played[1]) || len(played[0]) != len(script.Steps(b)) {
			t.Fatal("two sessions are unlike")
		}
	}
}
