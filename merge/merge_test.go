package merge_test

import (
	"math"
	"slices"
	"testing"

	"hygrometer/api"
	"hygrometer/blame"
	"hygrometer/fadd"
	"hygrometer/hist"
	"hygrometer/merge"
	"hygrometer/number"
)

var f = math.Float64bits

func attrs(key string) []api.KeyValue { return []api.KeyValue{{Key: key}} }

func opt(x float64) api.Opt { return api.Opt{Has: true, N: f(x)} }

func neg(n int64) uint64 { return uint64(n) }

// P25.1
func TestNumber(t *testing.T) {
	a := api.Number{Attrs: attrs("a"), Start: 1, Time: 2, Kind: 2, N: 3, Exemplars: make([]api.Exemplar, 1), Flags: 1, Unknown: "\x08\x01"}
	b := api.Number{Attrs: attrs("b"), Start: 4, Time: 5, Kind: 2, N: 6, Exemplars: make([]api.Exemplar, 2), Flags: 2, Unknown: "\x08\x02"}
	want := b
	want.Start, want.N = 1, 9
	if got, err := merge.Number(a, b); err != nil || !number.Same(got, want) {
		t.Error(got, err)
	}
	for i, c := range []struct {
		kind, other int
		a, b, n     uint64
		code        api.Code
	}{
		{2, 2, neg(-5), 3, neg(-2), 0}, {2, 2, math.MaxInt64, 1, 0, api.ErrRange}, {2, 2, 1, math.MaxInt64, 0, api.ErrRange}, {2, 2, neg(math.MinInt64), neg(-1), 0, api.ErrRange}, {2, 2, math.MaxInt64, neg(math.MinInt64), neg(-1), 0}, {2, 2, neg(math.MinInt64), neg(math.MinInt64), 0, api.ErrRange}, {2, 2, math.MaxInt64 - 1, 1, math.MaxInt64, 0},
		{1, 1, f(0.5), f(2), f(2.5), 0}, {1, 1, f(math.MaxFloat64), f(math.MaxFloat64), f(math.Inf(1)), 0}, {1, 1, 0x7FF0000000000001, f(1), 0x7FF8000000000001, 0}, {1, 1, 1 << 63, 0, 0, 0},
		{1, 2, 0, 0, 0, api.ErrUnlike}, {2, 1, 0, 0, 0, api.ErrUnlike}, {0, 0, 0, 0, 0, api.ErrUnlike}, {3, 3, 0, 0, 0, api.ErrUnlike}, {0, 2, 0, 0, 0, api.ErrUnlike},
	} {
		x, err := merge.Number(api.Number{Kind: c.kind, N: c.a}, api.Number{Kind: c.other, N: c.b})
		if x.N != c.n || blame.Code(err) != c.code || err != nil && !number.Same(x, api.Number{}) {
			t.Errorf("case %d: %X, %v", i, x.N, err)
		}
	}
}

// P25.4
func TestLessNumber(t *testing.T) {
	now := api.Number{Attrs: attrs("a"), Start: 1, Time: 7, Kind: 2, N: 9, Exemplars: make([]api.Exemplar, 1), Flags: 1, Unknown: "\x08\x01"}
	want := now
	want.Start, want.N = 5, 3
	if got, err := merge.LessNumber(now, api.Number{Start: 4, Time: 5, Kind: 2, N: 6}, true); err != nil || !number.Same(got, want) {
		t.Error(got, err)
	}
	for i, c := range []struct {
		kind, other int
		now, was    uint64
		mono        bool
		n           uint64
		code        api.Code
	}{
		{2, 2, 3, 5, false, neg(-2), 0}, {2, 2, 3, 5, true, 0, api.ErrRange}, {2, 2, 5, 5, true, 0, 0}, {2, 2, math.MaxInt64, neg(-1), false, 0, api.ErrRange}, {2, 2, math.MaxInt64, neg(-1), true, 0, api.ErrRange}, {2, 2, neg(-1), math.MaxInt64, false, neg(math.MinInt64), 0}, {2, 2, neg(-2), math.MaxInt64, false, 0, api.ErrRange}, {2, 2, 0, neg(math.MinInt64), false, 0, api.ErrRange},
		{1, 1, f(2), f(0.5), true, f(1.5), 0}, {1, 1, f(0.5), f(2), true, 0, api.ErrRange}, {1, 1, f(0.5), f(2), false, f(-1.5), 0}, {1, 1, fadd.Nan, f(2), true, fadd.Nan, 0}, {1, 1, f(2), 0x7FF0000000000003, true, 0x7FF8000000000003, 0}, {1, 1, 1 << 63, 0, true, 1 << 63, 0}, {1, 1, f(1), f(1), true, 0, 0},
		{1, 2, 0, 0, false, 0, api.ErrUnlike}, {2, 1, 0, 0, false, 0, api.ErrUnlike}, {0, 0, 0, 0, false, 0, api.ErrUnlike}, {-1, -1, 0, 0, false, 0, api.ErrUnlike},
	} {
		x, err := merge.LessNumber(api.Number{Kind: c.kind, N: c.now}, api.Number{Kind: c.other, N: c.was}, c.mono)
		if x.N != c.n || blame.Code(err) != c.code || err != nil && !number.Same(x, api.Number{}) {
			t.Errorf("case %d: %X, %v", i, x.N, err)
		}
	}
}

func hists() (api.Hist, api.Hist) {
	a := api.Hist{Attrs: attrs("a"), Start: 1, Time: 2, Count: 30, Sum: opt(3), Min: opt(4), Max: opt(5), Counts: []uint64{6, 7}, Bounds: []uint64{8}, Exemplars: make([]api.Exemplar, 1), Flags: 1, Unknown: "\x08\x01"}
	b := api.Hist{Attrs: attrs("b"), Start: 11, Time: 12, Count: 13, Sum: opt(14), Min: opt(-15), Max: opt(-16), Counts: []uint64{4, 2}, Bounds: []uint64{8}, Exemplars: make([]api.Exemplar, 2), Flags: 2, Unknown: "\x08\x02"}
	return a, b
}

// P25.1
func TestHist(t *testing.T) {
	a, b := hists()
	want := b
	want.Start, want.Count, want.Sum, want.Min, want.Max, want.Counts = 1, 43, opt(17), opt(-15), opt(5), []uint64{10, 9}
	if got, err := merge.Hist(a, b); err != nil || !hist.Same(got, want) {
		t.Errorf("%+v, %v", got, err)
	}
	back := a
	back.Start, back.Count, back.Sum, back.Min, back.Max, back.Counts = 11, 43, opt(17), opt(-15), opt(5), []uint64{10, 9}
	if got, err := merge.Hist(b, a); err != nil || !hist.Same(got, back) {
		t.Errorf("%+v, %v", got, err)
	}
	for i := range 6 {
		a, b := hists()
		x, want := []*api.Opt{&a.Sum, &a.Min, &a.Max, &b.Sum, &b.Min, &b.Max}[i], want
		*x = api.Opt{}
		*[]*api.Opt{&want.Sum, &want.Min, &want.Max}[i%3] = api.Opt{}
		if got, err := merge.Hist(a, b); err != nil || !hist.Same(got, want) {
			t.Errorf("without number %d: %+v, %v", i, got, err)
		}
	}
	wrong := func(what string, code api.Code, change func(a, b *api.Hist)) {
		t.Helper()
		a, b := hists()
		change(&a, &b)
		if got, err := merge.Hist(a, b); blame.Code(err) != code || !hist.Same(got, api.Hist{}) {
			t.Errorf("%s: %+v, %v", what, got, err)
		}
	}
	wrong("Bounds", api.ErrUnlike, func(a, b *api.Hist) { b.Bounds = []uint64{9}; b.Count = math.MaxUint64 })
	wrong("more Bounds", api.ErrUnlike, func(a, b *api.Hist) { b.Bounds = []uint64{8, 9} })
	wrong("Counts", api.ErrUnlike, func(a, b *api.Hist) { a.Counts = nil })
	wrong("Count", api.ErrRange, func(a, b *api.Hist) { a.Count = math.MaxUint64 - 12 })
	wrong("a count", api.ErrRange, func(a, b *api.Hist) { b.Counts[1] = math.MaxUint64 - 6 })
	if got, err := merge.Hist(api.Hist{Count: math.MaxUint64 - 1}, api.Hist{Count: 1}); err != nil || got.Count != math.MaxUint64 {
		t.Error(got, err)
	}
}

// P25.4, P25.6
func TestLessHist(t *testing.T) {
	now, was := hists()
	want := now
	want.Start, want.Count, want.Sum, want.Min, want.Max, want.Counts = 12, 17, opt(-11), api.Opt{}, api.Opt{}, []uint64{2, 5}
	if got, err := merge.LessHist(now, was); err != nil || !hist.Same(got, want) {
		t.Errorf("%+v, %v", got, err)
	}
	was.Sum = api.Opt{}
	want.Sum = api.Opt{}
	if got, err := merge.LessHist(now, was); err != nil || !hist.Same(got, want) {
		t.Errorf("%+v, %v", got, err)
	}
	sum, _ := merge.Hist(was, now)
	if got, err := merge.LessHist(sum, was); err != nil || got.Count != now.Count || !slices.Equal(got.Counts, now.Counts) {
		t.Error("what was added is taken away:", got, err)
	}
	wrong := func(what string, code api.Code, change func(now, was *api.Hist)) {
		t.Helper()
		now, was := hists()
		change(&now, &was)
		if got, err := merge.LessHist(now, was); blame.Code(err) != code || !hist.Same(got, api.Hist{}) {
			t.Errorf("%s: %+v, %v", what, got, err)
		}
	}
	wrong("Bounds", api.ErrUnlike, func(now, was *api.Hist) { was.Bounds = nil; was.Count = 99 })
	wrong("Counts", api.ErrUnlike, func(now, was *api.Hist) { was.Counts = []uint64{1} })
	wrong("Count", api.ErrRange, func(now, was *api.Hist) { was.Count = 31 })
	wrong("a count", api.ErrRange, func(now, was *api.Hist) { was.Counts[0] = 7 })
}

// P25.5
func TestNew(t *testing.T) {
	a, b := hists()
	got, _ := merge.Hist(a, b)
	less, _ := merge.LessHist(a, b)
	got.Attrs[0].Key, got.Bounds[0], got.Counts[0], got.Exemplars[0].Time = "z", 99, 99, 99
	less.Attrs[0].Key, less.Bounds[0], less.Counts[0], less.Exemplars[0].Time = "z", 99, 99, 99
	c, d := hists()
	if !hist.Same(a, c) || !hist.Same(b, d) {
		t.Error("shared memory")
	}
	x := api.Number{Kind: 2, Attrs: attrs("a"), Exemplars: make([]api.Exemplar, 1)}
	sum, _ := merge.Number(x, x)
	diff, _ := merge.LessNumber(x, x, false)
	sum.Attrs[0].Key, sum.Exemplars[0].Time = "z", 1
	diff.Attrs[0].Key, diff.Exemplars[0].Time = "y", 1
	if x.Attrs[0].Key != "a" || x.Exemplars[0].Time != 0 {
		t.Error("shared memory")
	}
}
