// Package fresh copies what has lists into new memory, all the way down, so that
// nothing that is answered or kept shares memory with anything else.
package fresh

import "hygrometer/api"

// List copies a list by what copies one of it; of an empty one nil.
func List[T any](l []T, one func(x T) T) []T {
	if len(l) == 0 {
		return nil
	}
	to := make([]T, len(l))
	for i, x := range l {
		to[i] = one(x)
	}
	return to
}

// Nums copies numbers.
func Nums(l []uint64) []uint64 { return List(l, func(n uint64) uint64 { return n }) }

// Value copies an AnyValue.
func Value(x api.Value) api.Value {
	x.L = List(x.L, Value)
	x.M = Keys(x.M)
	return x
}

// Key copies a KeyValue.
func Key(x api.KeyValue) api.KeyValue {
	x.Value = Value(x.Value)
	return x
}

// Keys copies attributes.
func Keys(l []api.KeyValue) []api.KeyValue { return List(l, Key) }

// Resource copies a Resource.
func Resource(x api.Resource) api.Resource {
	x.Attrs = Keys(x.Attrs)
	return x
}

// Scope copies a Scope.
func Scope(x api.Scope) api.Scope {
	x.Attrs = Keys(x.Attrs)
	return x
}

// Exemplar copies an Exemplar.
func Exemplar(x api.Exemplar) api.Exemplar {
	x.Attrs = Keys(x.Attrs)
	return x
}

// Number copies a point of a gauge or a sum.
func Number(x api.Number) api.Number {
	x.Attrs = Keys(x.Attrs)
	x.Exemplars = List(x.Exemplars, Exemplar)
	return x
}

// Hist copies a point of a histogram.
func Hist(x api.Hist) api.Hist {
	x.Attrs = Keys(x.Attrs)
	x.Counts = Nums(x.Counts)
	x.Bounds = Nums(x.Bounds)
	x.Exemplars = List(x.Exemplars, Exemplar)
	return x
}

// Buckets copies a side of an exponential histogram.
func Buckets(x api.Buckets) api.Buckets {
	x.Counts = Nums(x.Counts)
	return x
}

// Exp copies a point of an exponential histogram.
func Exp(x api.Exp) api.Exp {
	x.Attrs = Keys(x.Attrs)
	x.Pos = Buckets(x.Pos)
	x.Neg = Buckets(x.Neg)
	x.Exemplars = List(x.Exemplars, Exemplar)
	return x
}

// Summary copies a point of a summary.
func Summary(x api.Summary) api.Summary {
	x.Attrs = Keys(x.Attrs)
	x.Quantiles = List(x.Quantiles, func(q api.Quantile) api.Quantile { return q })
	return x
}

// Metric copies a metric with all its points.
func Metric(x api.Metric) api.Metric {
	x.Numbers = List(x.Numbers, Number)
	x.Hists = List(x.Hists, Hist)
	x.Exps = List(x.Exps, Exp)
	x.Summaries = List(x.Summaries, Summary)
	x.Meta = Keys(x.Meta)
	return x
}
