package check

import (
	"hygrometer/api"
	"hygrometer/batch"
	"hygrometer/fresh"
	"hygrometer/metric"
)

// sieve keeps the points that are Fine, and the reason of the first other one.
type sieve struct{ first int }

// Split is the batch of the points that are Fine, how many were left out, and
// the reason of the first one of these.
func Split(b api.Batch) (api.Batch, int, int) {
	var s sieve
	to := api.Batch{Resources: fresh.List(b.Resources, s.resource), Unknown: b.Unknown}
	return to, batch.Points(b) - batch.Points(to), s.first
}

func (s *sieve) resource(x api.ResourceMetrics) api.ResourceMetrics {
	x.Resource = fresh.Resource(x.Resource)
	x.Scopes = fresh.List(x.Scopes, s.scope)
	return x
}

func (s *sieve) scope(x api.ScopeMetrics) api.ScopeMetrics {
	x.Scope = fresh.Scope(x.Scope)
	x.Metrics = fresh.List(x.Metrics, s.metric)
	return x
}

func (s *sieve) metric(m api.Metric) api.Metric {
	to := m
	to.Numbers, to.Hists, to.Exps, to.Summaries = nil, nil, nil, nil
	to.Meta = fresh.Keys(m.Meta)
	reasons := make([]int, metric.Points(m))
	for i := range reasons {
		reasons[i] = Point(m, i)
		if s.first == Fine {
			s.first = reasons[i]
		}
	}
	switch m.Kind {
	case 1:
		fallthrough
	case 2:
		to.Numbers = fresh.List(fine(m.Numbers, reasons), fresh.Number)
	case 3:
		to.Hists = fresh.List(fine(m.Hists, reasons), fresh.Hist)
	case 4:
		to.Exps = fresh.List(fine(m.Exps, reasons), fresh.Exp)
	case 5:
		to.Summaries = fresh.List(fine(m.Summaries, reasons), fresh.Summary)
	}
	return to
}

// fine are those of l whose reason is Fine.
func fine[T any](l []T, reasons []int) []T {
	var to []T
	for i, x := range l {
		if reasons[i] == Fine {
			to = append(to, x)
		}
	}
	return to
}
