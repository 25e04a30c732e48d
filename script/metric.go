package script

import (
	"strconv"

	"hygrometer/api"
	"hygrometer/flt"
	"hygrometer/fresh"
)

// grow adds to a batch what four numbers say.
func grow(x *api.Batch, k, a, b, c int) {
	if k%8 == 6 {
		var r api.ResourceMetrics
		if a%2 == 1 {
			r.Schema = digit(a % 10)
		}
		x.Resources = append(x.Resources, r)
		return
	}
	if len(x.Resources) == 0 {
		x.Resources = append(x.Resources, api.ResourceMetrics{})
	}
	scopes := &x.Resources[len(x.Resources)-1].Scopes
	if k%8 == 7 {
		var s api.ScopeMetrics
		if a%2 == 1 {
			s.Has, s.Scope.Name = true, digit(a%10)
		}
		*scopes = append(*scopes, s)
		return
	}
	if len(*scopes) == 0 {
		*scopes = append(*scopes, api.ScopeMetrics{})
	}
	metrics := &(*scopes)[len(*scopes)-1].Metrics
	if k%2 == 0 || len(*metrics) == 0 {
		*metrics = append(*metrics, Metric(k/8, a, b, c))
	}
	last := len(*metrics) - 1
	(*metrics)[last] = Point((*metrics)[last], a, b, c)
}

func digit(n int) string { return strconv.Itoa(n) }

// Metric is one without points, of four numbers.
func Metric(k, a, b, c int) api.Metric {
	k, a, b, c = max(k, 0), max(a, 0), max(b, 0), max(c, 0)
	m := api.Metric{Name: "m" + digit(a%4), Kind: k % 6}
	if m.Kind >= 2 && m.Kind <= 4 {
		m.Temporality = int32(1 + b%2)
	}
	m.Monotonic = m.Kind == 2 && c%2 == 1
	return m
}

// maker makes points of three numbers, none below 0.
type maker struct {
	a, b, c     int
	start, time uint64
}

// Point is m with one point more.
func Point(m api.Metric, a, b, c int) api.Metric {
	a, b, c = max(a, 0), max(b, 0), max(c, 0)
	start := uint64(b % 16)
	p := maker{a: a, b: b, c: c, start: start, time: start + 1 + uint64(c%4)}
	m = fresh.Metric(m)
	adds := [...]func(m *api.Metric){func(*api.Metric) {}, p.number, p.number, p.hist, p.exp, p.summary}
	if m.Kind > 0 && m.Kind < len(adds) {
		adds[m.Kind](&m)
	}
	return m
}

func (p maker) attrs() []api.KeyValue {
	n := p.a % 3
	if n == 0 {
		return nil
	}
	return []api.KeyValue{{Key: "k", Has: true, Value: api.Value{Kind: 3, N: uint64(n)}}}
}

func (p maker) number(m *api.Metric) {
	x := api.Number{Attrs: p.attrs(), Start: p.start, Time: p.time, Kind: 2, N: uint64(p.c)}
	if p.a%2 == 1 {
		x.Kind, x.N = 1, flt.FromInt(int64(p.c))
	}
	m.Numbers = append(m.Numbers, x)
}

func (p maker) hist(m *api.Metric) {
	low, high := uint64(p.c%5), uint64(p.b%5)
	x := api.Hist{Attrs: p.attrs(), Start: p.start, Time: p.time, Count: low + high, Counts: []uint64{low, high}, Bounds: []uint64{flt.FromInt(int64(p.a % 4))}}
	if p.a%2 == 1 {
		x.Sum = api.Opt{Has: true, N: flt.FromInt(int64(p.c))}
	}
	m.Hists = append(m.Hists, x)
}

func (p maker) exp(m *api.Metric) {
	zero, low, high := uint64(p.a%2), uint64(p.a%3), uint64(1+p.c%3)
	m.Exps = append(m.Exps, api.Exp{
		Attrs: p.attrs(), Start: p.start, Time: p.time, Count: zero + low + high, Scale: int32(p.c % 4), Zero: zero,
		HasPos: true, Pos: api.Buckets{Offset: int32(p.b%32) - 16, Counts: []uint64{low, high}},
	})
}

func (p maker) summary(m *api.Metric) {
	m.Summaries = append(m.Summaries, api.Summary{Attrs: p.attrs(), Start: p.start, Time: p.time, Count: uint64(p.c), Sum: flt.FromInt(int64(p.b))})
}
