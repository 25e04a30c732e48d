package session_test

import (
	"math"
	"math/rand"
	"slices"
	"strings"
	"testing"

	"hygrometer/api"
	"hygrometer/batch"
	"hygrometer/blame"
	"hygrometer/ident"
	"hygrometer/pack"
	"hygrometer/session"
)

func open(t *testing.T, c session.Config) *session.Session {
	t.Helper()
	s, err := session.New(c)
	if err != nil {
		t.Fatal(err)
	}
	return s
}

func config(way int, packed bool) session.Config {
	return session.Config{Way: way, Packed: packed, Streams: 4, Buckets: 4, Ticks: 2}
}

// wrap is a batch of a resource and a scope that have something of all.
func wrap(l ...api.Metric) api.Batch {
	s := api.ScopeMetrics{Has: true, Scope: api.Scope{Name: "s"}, Metrics: l, Schema: "x", Unknown: "\x20\x01"}
	r := api.ResourceMetrics{Has: true, Resource: api.Resource{Dropped: 3}, Scopes: []api.ScopeMetrics{s}, Schema: "y", Unknown: "\x20\x02"}
	return api.Batch{Resources: []api.ResourceMetrics{r}, Unknown: "\x20\x03"}
}

// sum is a metric of a sum, of points of three numbers each: Start, Time, and the integer.
func sum(temporality int32, l ...uint64) api.Metric {
	m := api.Metric{Name: "m", Kind: 2, Temporality: temporality, Monotonic: true}
	for i := 0; i < len(l); i += 3 {
		m.Numbers = append(m.Numbers, api.Number{Start: l[i], Time: l[i+1], Kind: 2, N: l[i+2]})
	}
	return m
}

func bytes(t *testing.T, b api.Batch) string {
	t.Helper()
	s, err := batch.Marshal(b)
	if err != nil {
		t.Fatal(err)
	}
	return s
}

// ingest asks that a batch is answered so many rejected points, for a reason.
func ingest(t *testing.T, s *session.Session, b api.Batch, rejected int64, message string) {
	t.Helper()
	answer, err := s.Ingest(bytes(t, b))
	if err != nil {
		t.Fatal(err)
	}
	r, err := batch.ReadAnswer(answer)
	if want := (api.Response{Has: rejected > 0, Rejected: rejected, Message: message}); err != nil || r != want {
		t.Errorf("%+v, %v", r, err)
	}
}

// flush asks that just these batches are told.
func flush(t *testing.T, s *session.Session, l ...api.Batch) {
	t.Helper()
	if s.Queue() != len(l) {
		t.Errorf("%d wait", s.Queue())
	}
	told, out := s.Flush()
	if out != 0 || len(told) != len(l) || s.Queue() != 0 {
		t.Fatalf("%d told, %d left out", len(told), out)
	}
	for i, z := range told {
		if got, err := batch.Unmarshal(z); err != nil || !batch.Same(got, l[i]) {
			t.Errorf("batch %d: %+v, %v", i, got, err)
		}
	}
}

// P27.1
func TestNew(t *testing.T) {
	if [...]int{session.Pass, session.Up, session.Down} != [...]int{0, 1, 2} {
		t.Error("the constants")
	}
	for _, c := range []session.Config{{Way: -1, Streams: 1, Buckets: 1, Ticks: 1}, {Way: 3, Streams: 1, Buckets: 1, Ticks: 1}, {Way: math.MinInt}, {}, {Streams: 1001, Buckets: 1, Ticks: 1}, {Streams: 1, Buckets: 321, Ticks: 1}, {Streams: 1, Buckets: 1, Ticks: 1000001}} {
		if s, err := session.New(c); s != nil || blame.Code(err) != api.ErrRange {
			t.Error(c, err)
		}
	}
	s := open(t, session.Config{Streams: 1, Buckets: 1, Ticks: 1})
	answer, err := s.Ingest("")
	if answer != "" || err != nil || s.Told() != 0 || s.Rejected() != 0 || s.Queue() != 0 || s.Table().Len() != 0 {
		t.Error(answer, err)
	}
	if l, out := s.Flush(); len(l) != 0 || out != 0 {
		t.Error("nothing waits:", l, out)
	}
}

// P27.2: what passes is told as it is.
func TestPass(t *testing.T) {
	s := open(t, config(session.Pass, false))
	b := wrap(sum(1, 1, 2, 3, 0, 1, 1), api.Metric{Name: "g", Kind: 1, Numbers: []api.Number{{Time: 1, Kind: 1}}}, api.Metric{})
	ingest(t, s, b, 0, "")
	ingest(t, s, b, 0, "")
	ingest(t, s, wrap(api.Metric{Name: "n"}, sum(2)), 0, "")
	if s.Told() != 6 || s.Rejected() != 0 || s.Table().Len() != 0 {
		t.Error(s.Told(), s.Rejected(), s.Table().Len())
	}
	flush(t, s, b, b)
}

// P27.2: deltas are told as sums.
func TestUp(t *testing.T) {
	s := open(t, config(session.Up, false))
	gauge := api.Metric{Name: "g", Kind: 1, Numbers: []api.Number{{Time: 1, Kind: 1}}}
	hist := api.Metric{Name: "h", Kind: 3, Temporality: 1, Hists: []api.Hist{{Time: 1, Count: 3}, {Start: 1, Time: 2, Count: 4}}}
	exp := api.Metric{Name: "e", Kind: 4, Temporality: 1, Exps: []api.Exp{{Time: 1, Count: 3, HasPos: true, Pos: api.Buckets{Counts: []uint64{1, 0, 0, 0, 2}}}}}
	summary := api.Metric{Name: "s", Kind: 5, Summaries: []api.Summary{{Time: 1}}}
	ingest(t, s, wrap(sum(1, 1, 2, 3, 2, 3, 4), gauge, hist, sum(2, 1, 9, 9), exp, summary, sum(1)), 0, "")
	hist.Temporality, exp.Temporality = 2, 2
	hist.Hists = []api.Hist{{Time: 1, Count: 3}, {Time: 2, Count: 7}}
	exp.Exps = []api.Exp{{Time: 1, Count: 3, Scale: -1, HasPos: true, Pos: api.Buckets{Counts: []uint64{1, 0, 2}}}}
	flush(t, s, wrap(sum(2, 1, 2, 3, 1, 3, 7), gauge, hist, sum(2, 1, 9, 9), exp, summary, sum(2)))
	if s.Told() != 8 || s.Rejected() != 0 || s.Table().Len() != 3 {
		t.Error(s.Told(), s.Rejected(), s.Table().Len())
	}
	// The first one that is rejected gives the reason; what restarts is told.
	ingest(t, s, wrap(sum(1, 1, 4, 5, 3, 5, 1, 5, 6, math.MaxInt64, 5, 5, 0)), 2, "2 points: elder")
	flush(t, s, wrap(sum(2, 1, 5, 8, 5, 6, math.MaxInt64)))
	if s.Told() != 10 || s.Rejected() != 2 {
		t.Error(s.Told(), s.Rejected())
	}
	key := ident.Key(wrap().Resources[0], wrap().Resources[0].Scopes[0], sum(1), nil)
	if p, ok := s.Table().State(key); !ok || p.Number.N != math.MaxInt64 {
		t.Error("the key:", p, ok)
	}
}

// P27.2: streams are told apart by ident.Key.
func TestKeys(t *testing.T) {
	attrs := func(keys ...string) []api.KeyValue {
		var l []api.KeyValue
		for _, key := range keys {
			l = append(l, api.KeyValue{Key: key, Has: true, Value: api.Value{Kind: 1, S: key}})
		}
		return l
	}
	b := wrap(sum(1, 1, 2, 3, 1, 3, 4), sum(1, 1, 2, 3))
	s := b.Resources[0].Scopes[0]
	s.Scope.Version, s.Scope.Attrs = "v", attrs("y", "x")
	b.Resources[0].Resource.Attrs = attrs("b", "a")
	s.Metrics[0].Unit, s.Metrics[1].Monotonic, s.Metrics[1].Name = "u", false, "other"
	s.Metrics[0].Numbers[1].Attrs = attrs("q", "p")
	b.Resources = append(b.Resources, api.ResourceMetrics{Scopes: []api.ScopeMetrics{{Metrics: []api.Metric{sum(1, 1, 2, 3)}}}})
	b.Resources[0].Scopes[0] = s
	c := open(t, config(session.Up, false))
	ingest(t, c, b, 0, "")
	other := b.Resources[1]
	want := []string{
		ident.Key(b.Resources[0], s, s.Metrics[0], nil), ident.Key(b.Resources[0], s, s.Metrics[0], attrs("p", "q")), ident.Key(b.Resources[0], s, s.Metrics[1], nil),
		ident.Key(other, other.Scopes[0], other.Scopes[0].Metrics[0], nil),
	}
	slices.Sort(want)
	if got := c.Table().Keys(); !slices.Equal(got, want) {
		t.Errorf("%q, not %q", got, want)
	}
}

// P27.2: sums are told as deltas.
func TestDown(t *testing.T) {
	s := open(t, config(session.Down, true))
	free := sum(2, 1, 2, 9, 1, 3, 4)
	free.Monotonic = false
	ingest(t, s, wrap(sum(2, 1, 2, 3, 1, 3, 7, 1, 4, 6), free, sum(1, 1, 2, 3), sum(2)), 0, "")
	b := wrap(sum(1, 1, 2, 3, 2, 3, 4, 1, 4, 6), sum(1, 1, 2, 9, 2, 3, math.MaxUint64-4), sum(1, 1, 2, 3), sum(1))
	b.Resources[0].Scopes[0].Metrics[1].Monotonic = false
	told, out := s.Flush()
	if len(told) != 1 || out != 0 {
		t.Fatal(told, out)
	}
	if got, err := pack.Unpack(told[0]); err != nil || !batch.Same(got, b) {
		t.Errorf("%+v, %v", got, err)
	}
	ingest(t, s, wrap(sum(2, 1, 4, 9)), 1, "1 points: elder")
	if s.Queue() != 0 || s.Told() != 6 || s.Rejected() != 1 {
		t.Error("a batch without points waits")
	}
}

// P27.2: the reason of Split stands ahead of the table's.
func TestRejected(t *testing.T) {
	c := config(session.Up, false)
	c.Streams = 1
	s := open(t, c)
	other := sum(1, 1, 2, 3)
	other.Name = "other"
	ingest(t, s, wrap(sum(1, 1, 2, 3), other, sum(1, 1, 1, 1)), 2, "2 points: full")
	ingest(t, s, wrap(other, sum(1, 2, 3, 4), sum(1, 4, 3, 0, 0, 0, 0)), 3, "3 points: order")
	ingest(t, s, wrap(sum(0, 1, 2, 3)), 1, "1 points: no temporality")
	wild := api.Metric{Name: "e", Kind: 4, Temporality: 1, Exps: []api.Exp{{Time: 1, Count: 2, Scale: -10, HasPos: true, Pos: api.Buckets{Counts: []uint64{1, 0, 0, 0, 1}}}}}
	ingest(t, s, wrap(wild, other), 2, "2 points: unfit")
	if s.Told() != 2 || s.Rejected() != 8 {
		t.Error(s.Told(), s.Rejected())
	}
	other.Temporality, other.Numbers = 2, nil
	flush(t, s, wrap(sum(2, 1, 2, 3), other, sum(2)), wrap(other, sum(2, 1, 3, 7), sum(2)))
}

// P27.2, P27.5: what is not read changes nothing.
func TestWrong(t *testing.T) {
	s := open(t, config(session.Up, false))
	ingest(t, s, wrap(sum(1, 1, 2, 3)), 0, "")
	for x, code := range map[string]api.Code{"\x0A": api.ErrShort, "\x07": api.ErrForm, "\x0A\x03\x1A\x01\xFF": api.ErrUTF8, strings.Repeat("\x00", api.MaxBytes+1): api.ErrTooLarge} {
		answer, err := s.Ingest(x)
		if nums := blame.Nums(err); answer != "" || blame.Code(err) != code || len(nums) == 0 || nums[0] != 1 {
			t.Error(answer, err)
		}
	}
	if s.Told() != 1 || s.Rejected() != 0 || s.Queue() != 1 || s.Table().Len() != 1 {
		t.Error("something has changed")
	}
}

// P27.2, P27.3: a hundred wait at most; then none is read.
func TestFull(t *testing.T) {
	s := open(t, config(session.Pass, false))
	for range 100 {
		ingest(t, s, wrap(sum(1, 1, 2, 3)), 0, "")
	}
	for _, x := range []string{bytes(t, wrap(sum(1, 1, 2, 3))), "", "\x07"} {
		if answer, err := s.Ingest(x); answer != "" || blame.Code(err) != api.ErrFull {
			t.Error(answer, err)
		}
	}
	if s.Queue() != 100 || s.Told() != 100 {
		t.Error(s.Queue(), s.Told())
	}
	if l, out := s.Flush(); len(l) != 100 || out != 0 {
		t.Error(len(l), out)
	}
	ingest(t, s, wrap(sum(1, 1, 2, 3)), 0, "")
}

// P27.3: what has an error is left out, and was told on all the same.
func TestLeftOut(t *testing.T) {
	s := open(t, config(session.Pass, true))
	tall := api.Metric{Name: "h", Kind: 5, Summaries: []api.Summary{{Time: 1, Quantiles: make([]api.Quantile, 20000)}}}
	ingest(t, s, wrap(sum(1, 1, 2, 3)), 0, "")
	ingest(t, s, wrap(tall), 0, "")
	ingest(t, s, wrap(sum(1, 2, 3, 4)), 0, "")
	l, out := s.Flush()
	if len(l) != 2 || out != 1 || s.Told() != 3 || s.Queue() != 0 {
		t.Error(len(l), out, s.Told())
	}
	if l, out := s.Flush(); len(l) != 0 || out != 0 {
		t.Error("none waits:", len(l), out)
	}
}

// P27.3
func TestTick(t *testing.T) {
	s := open(t, config(session.Up, false))
	ingest(t, s, wrap(sum(1, 1, 2, 3)), 0, "")
	if s.Tick() != 0 || s.Table().Len() != 1 || s.Tick() != 1 || s.Table().Len() != 0 || s.Tick() != 0 {
		t.Error("ticks")
	}
	ingest(t, s, wrap(sum(1, 1, 1, 1)), 0, "")
	if s.Told() != 2 {
		t.Error(s.Told())
	}
}

// P27.4: what waits is the session's own, and what was told is the caller's.
func TestMemory(t *testing.T) {
	s := open(t, config(session.Up, false))
	b := wrap(sum(1, 1, 2, 3))
	ingest(t, s, b, 0, "")
	b.Resources[0].Scopes[0].Metrics[0].Numbers[0].N = 99
	key := s.Table().Keys()[0]
	p, _ := s.Table().State(key)
	p.Number.N = 99
	ingest(t, s, wrap(sum(1, 2, 3, 4)), 0, "")
	l, _ := s.Flush()
	if len(l) != 2 || l[0] != bytes(t, wrap(sum(2, 1, 2, 3))) || l[1] != bytes(t, wrap(sum(2, 1, 3, 7))) {
		t.Errorf("%q", l)
	}
}

// P27.5, P27.6: at each ingest all points are counted, and two sessions tell the same.
func TestMany(t *testing.T) {
	rnd := rand.New(rand.NewSource(27))
	for way := range 3 {
		a, b := open(t, config(way, way == 1)), open(t, config(way, way == 1))
		for range 400 {
			var l []api.Metric
			for range rnd.Intn(4) {
				m := sum(int32(rnd.Intn(3)))
				m.Name = string([]byte{byte('a' + rnd.Intn(6))})
				for range rnd.Intn(4) {
					m.Numbers = append(m.Numbers, api.Number{Start: uint64(rnd.Intn(20)), Time: uint64(rnd.Intn(20)), Kind: 2, N: uint64(rnd.Intn(9))})
				}
				l = append(l, m)
			}
			whole := wrap(l...)
			before, x := a.Told()+a.Rejected(), bytes(t, whole)
			got, err := a.Ingest(x)
			other, otherErr := b.Ingest(x)
			if err == nil && a.Told()+a.Rejected()-before != batch.Points(whole) || a.Table().Len() > 4 {
				t.Fatal("points are lost")
			}
			if got != other || blame.Code(err) != blame.Code(otherErr) || !slices.Equal(a.Table().Keys(), b.Table().Keys()) {
				t.Fatal("two sessions are unlike")
			}
			if rnd.Intn(9) == 0 && a.Tick() != b.Tick() {
				t.Fatal("two sessions are unlike")
			}
			if rnd.Intn(30) == 0 {
				l, out := a.Flush()
				m, otherOut := b.Flush()
				if !slices.Equal(l, m) || out != otherOut {
					t.Fatal("two sessions are unlike")
				}
			}
		}
	}
}
