package pack

import (
	"hygrometer/api"
	"hygrometer/attr"
	"hygrometer/varint"
)

// n, t and b put a number, a text and bytes behind Shape.
func (c *columns) n(n uint64)             { c.shape = append(c.shape, n) }
func (c *columns) t(s string)             { c.n(uint64(c.texts.Add(s))) }
func (c *columns) b(s string)             { c.n(uint64(c.blobs.Add(s))) }
func (c *columns) value(n uint64)         { c.values = append(c.values, n) }
func (c *columns) count(n uint64)         { c.counts = append(c.counts, n) }
func (c *columns) zig(n int32)            { c.n(varint.Zig32(n)) }
func (c *columns) attrs(l []api.KeyValue) { c.b(attr.Pack(l)) }

func (c *columns) has(has bool) {
	if has {
		c.n(1)
	} else {
		c.n(0)
	}
}

func (c *columns) opt(x api.Opt) {
	c.has(x.Has)
	if x.Has {
		c.value(x.N)
	}
}

// putList puts how many there are, and each.
func putList[T any](c *columns, l []T, put func(x T)) {
	c.n(uint64(len(l)))
	for _, x := range l {
		put(x)
	}
}

func (c *columns) putBatch(x api.Batch) {
	c.b(x.Unknown)
	putList(c, x.Resources, c.putResource)
}

func (c *columns) putResource(x api.ResourceMetrics) {
	c.has(x.Has)
	if x.Has {
		c.attrs(x.Resource.Attrs)
		c.n(uint64(x.Resource.Dropped))
		c.b(x.Resource.Unknown)
	}
	c.t(x.Schema)
	c.b(x.Unknown)
	putList(c, x.Scopes, c.putScope)
}

func (c *columns) putScope(x api.ScopeMetrics) {
	c.has(x.Has)
	if x.Has {
		c.t(x.Scope.Name)
		c.t(x.Scope.Version)
		c.attrs(x.Scope.Attrs)
		c.n(uint64(x.Scope.Dropped))
		c.b(x.Scope.Unknown)
	}
	c.t(x.Schema)
	c.b(x.Unknown)
	putList(c, x.Metrics, c.putMetric)
}

func (c *columns) putMetric(x api.Metric) {
	c.t(x.Name)
	c.t(x.Desc)
	c.t(x.Unit)
	c.n(uint64(x.Kind))
	c.zig(x.Temporality)
	c.has(x.Monotonic)
	c.attrs(x.Meta)
	c.b(x.Inner)
	c.b(x.Unknown)
	switch x.Kind {
	case 0:
		c.n(0)
	case 1:
		fallthrough
	case 2:
		putList(c, x.Numbers, c.putNumber)
	case 3:
		putList(c, x.Hists, c.putHist)
	case 4:
		putList(c, x.Exps, c.putExp)
	case 5:
		putList(c, x.Summaries, c.putSummary)
	}
}

// point puts what all points begin with.
func (c *columns) point(attrs []api.KeyValue, start, time uint64, flags uint32, unknown string) {
	c.attrs(attrs)
	c.starts = append(c.starts, start)
	c.times = append(c.times, time)
	c.n(uint64(flags))
	c.b(unknown)
}

// number puts a Kind, and the number that it has above 0.
func (c *columns) number(kind int, n uint64) {
	c.n(uint64(kind))
	if kind > 0 {
		c.value(n)
	}
}

func (c *columns) putNumber(x api.Number) {
	c.point(x.Attrs, x.Start, x.Time, x.Flags, x.Unknown)
	c.number(x.Kind, x.N)
	putList(c, x.Exemplars, c.putExemplar)
}

func (c *columns) putHist(x api.Hist) {
	c.point(x.Attrs, x.Start, x.Time, x.Flags, x.Unknown)
	c.count(x.Count)
	c.opt(x.Sum)
	c.opt(x.Min)
	c.opt(x.Max)
	putList(c, x.Counts, c.count)
	putList(c, x.Bounds, c.value)
	putList(c, x.Exemplars, c.putExemplar)
}

func (c *columns) putExp(x api.Exp) {
	c.point(x.Attrs, x.Start, x.Time, x.Flags, x.Unknown)
	c.count(x.Count)
	c.count(x.Zero)
	c.opt(x.Sum)
	c.opt(x.Min)
	c.opt(x.Max)
	c.zig(x.Scale)
	c.value(x.Threshold)
	c.putSide(x.HasPos, x.Pos)
	c.putSide(x.HasNeg, x.Neg)
	putList(c, x.Exemplars, c.putExemplar)
}

func (c *columns) putSide(has bool, x api.Buckets) {
	c.has(has)
	if has {
		c.zig(x.Offset)
		putList(c, x.Counts, c.count)
		c.b(x.Unknown)
	}
}

func (c *columns) putSummary(x api.Summary) {
	c.point(x.Attrs, x.Start, x.Time, x.Flags, x.Unknown)
	c.count(x.Count)
	c.value(x.Sum)
	putList(c, x.Quantiles, func(q api.Quantile) {
		c.value(q.Q)
		c.value(q.V)
		c.b(q.Unknown)
	})
}

func (c *columns) putExemplar(x api.Exemplar) {
	c.attrs(x.Attrs)
	c.times = append(c.times, x.Time)
	c.number(x.Kind, x.N)
	c.b(x.Span)
	c.b(x.Trace)
	c.b(x.Unknown)
}
