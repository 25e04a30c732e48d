package pack

import (
	"hygrometer/api"
	"hygrometer/attr"
	"hygrometer/blame"
	"hygrometer/dict"
	"hygrometer/varint"
)

// walk reads columns in the order in which they were put. After the first error
// only zero values are read, and lists end.
type walk struct {
	columns
	room int // bytes that texts and blobs may still have
	err  error
}

func (c columns) getBatch() (api.Batch, error) {
	w := walk{columns: c, room: api.MaxBytes}
	var x api.Batch
	x.Unknown = w.blob()
	x.Resources = getList(&w, w.getResource)
	if w.err != nil {
		return api.Batch{}, w.err
	}
	return x, nil
}

func (w *walk) fail(err error) {
	if w.err == nil {
		w.err = err
	}
}

// next takes the first number of a column.
func (w *walk) next(l *[]uint64) uint64 {
	if len(*l) == 0 {
		w.fail(blame.At(0, api.ErrShort))
	}
	if w.err != nil {
		return 0
	}
	n := (*l)[0]
	*l = (*l)[1:]
	return n
}

func (w *walk) num() uint64      { return w.next(&w.shape) }
func (w *walk) getValue() uint64 { return w.next(&w.values) }
func (w *walk) getCount() uint64 { return w.next(&w.counts) }
func (w *walk) getZig() int32    { return varint.Zag32(w.num()) }
func (w *walk) getHas() bool     { return w.num() != 0 }
func (w *walk) text() string     { return w.told(w.texts) }
func (w *walk) blob() string     { return w.told(w.blobs) }

// told is the text of a number. What one text is told often stands in the
// batch's bytes as often, so that there is no room for more than these may be.
func (w *walk) told(d *dict.Dict) string {
	n := w.num()
	if n >= uint64(d.Len()) {
		w.fail(blame.At(0, api.ErrRange))
	}
	if w.err != nil {
		return ""
	}
	s, _ := d.Get(int(n))
	w.room -= len(s)
	if w.room < 0 {
		w.fail(blame.At(0, api.ErrTooLarge))
		return ""
	}
	return s
}

func (w *walk) getAttrs() []api.KeyValue {
	l, err := attr.Unpack(w.blob(), api.MaxDepth)
	if err != nil {
		w.fail(err)
	}
	return l
}

func (w *walk) getOpt() api.Opt {
	if !w.getHas() {
		return api.Opt{}
	}
	return api.Opt{Has: true, N: w.getValue()}
}

// getList reads how many there are, and each. Each takes a number at least, so
// that it ends when there are none.
func getList[T any](w *walk, get func() T) []T {
	var l []T
	for n := w.num(); n > 0 && w.err == nil; n-- {
		l = append(l, get())
	}
	return l
}

func (w *walk) getResource() api.ResourceMetrics {
	x := api.ResourceMetrics{Has: w.getHas()}
	if x.Has {
		x.Resource.Attrs = w.getAttrs()
		x.Resource.Dropped = uint32(w.num())
		x.Resource.Unknown = w.blob()
	}
	x.Schema = w.text()
	x.Unknown = w.blob()
	x.Scopes = getList(w, w.getScope)
	return x
}

func (w *walk) getScope() api.ScopeMetrics {
	x := api.ScopeMetrics{Has: w.getHas()}
	if x.Has {
		x.Scope.Name = w.text()
		x.Scope.Version = w.text()
		x.Scope.Attrs = w.getAttrs()
		x.Scope.Dropped = uint32(w.num())
		x.Scope.Unknown = w.blob()
	}
	x.Schema = w.text()
	x.Unknown = w.blob()
	x.Metrics = getList(w, w.getMetric)
	return x
}

func (w *walk) getMetric() api.Metric {
	var x api.Metric
	x.Name = w.text()
	x.Desc = w.text()
	x.Unit = w.text()
	x.Kind = int(w.num())
	x.Temporality = w.getZig()
	x.Monotonic = w.getHas()
	x.Meta = w.getAttrs()
	x.Inner = w.blob()
	x.Unknown = w.blob()
	switch x.Kind {
	case 1:
		fallthrough
	case 2:
		x.Numbers = getList(w, w.getNumber)
	case 3:
		x.Hists = getList(w, w.getHist)
	case 4:
		x.Exps = getList(w, w.getExp)
	case 5:
		x.Summaries = getList(w, w.getSummary)
	default:
		w.num()
	}
	return x
}

// point is what all points begin with.
type point struct {
	attrs       []api.KeyValue
	start, time uint64
	flags       uint32
	unknown     string
}

func (w *walk) getPoint() point {
	var x point
	x.attrs = w.getAttrs()
	x.start = w.next(&w.starts)
	x.time = w.next(&w.times)
	x.flags = uint32(w.num())
	x.unknown = w.blob()
	return x
}

// getKind reads a Kind, and the number that it has above 0.
func (w *walk) getKind() (int, uint64) {
	kind := w.num()
	if kind == 0 {
		return 0, 0
	}
	return int(kind), w.getValue()
}

func (w *walk) getNumber() api.Number {
	p := w.getPoint()
	x := api.Number{Attrs: p.attrs, Start: p.start, Time: p.time, Flags: p.flags, Unknown: p.unknown}
	x.Kind, x.N = w.getKind()
	x.Exemplars = getList(w, w.getExemplar)
	return x
}

func (w *walk) getHist() api.Hist {
	p := w.getPoint()
	x := api.Hist{Attrs: p.attrs, Start: p.start, Time: p.time, Flags: p.flags, Unknown: p.unknown}
	x.Count = w.getCount()
	x.Sum = w.getOpt()
	x.Min = w.getOpt()
	x.Max = w.getOpt()
	x.Counts = getList(w, w.getCount)
	x.Bounds = getList(w, w.getValue)
	x.Exemplars = getList(w, w.getExemplar)
	return x
}

func (w *walk) getExp() api.Exp {
	p := w.getPoint()
	x := api.Exp{Attrs: p.attrs, Start: p.start, Time: p.time, Flags: p.flags, Unknown: p.unknown}
	x.Count = w.getCount()
	x.Zero = w.getCount()
	x.Sum = w.getOpt()
	x.Min = w.getOpt()
	x.Max = w.getOpt()
	x.Scale = w.getZig()
	x.Threshold = w.getValue()
	x.HasPos, x.Pos = w.getSide()
	x.HasNeg, x.Neg = w.getSide()
	x.Exemplars = getList(w, w.getExemplar)
	return x
}

func (w *walk) getSide() (bool, api.Buckets) {
	var x api.Buckets
	has := w.getHas()
	if has {
		x.Offset = w.getZig()
		x.Counts = getList(w, w.getCount)
		x.Unknown = w.blob()
	}
	return has, x
}

func (w *walk) getSummary() api.Summary {
	p := w.getPoint()
	x := api.Summary{Attrs: p.attrs, Start: p.start, Time: p.time, Flags: p.flags, Unknown: p.unknown}
	x.Count = w.getCount()
	x.Sum = w.getValue()
	x.Quantiles = getList(w, w.getQuantile)
	return x
}

func (w *walk) getQuantile() api.Quantile {
	var x api.Quantile
	x.Q = w.getValue()
	x.V = w.getValue()
	x.Unknown = w.blob()
	return x
}

func (w *walk) getExemplar() api.Exemplar {
	var x api.Exemplar
	x.Attrs = w.getAttrs()
	x.Time = w.next(&w.times)
	x.Kind, x.N = w.getKind()
	x.Span = w.blob()
	x.Trace = w.blob()
	x.Unknown = w.blob()
	return x
}
