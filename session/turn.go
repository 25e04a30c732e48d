package session

import (
	"hygrometer/api"
	"hygrometer/conv"
	"hygrometer/ident"
)

// turn converts the points of one batch by a table, and counts those that the
// table rejects, with the verdict on the first one.
type turn struct {
	table      *conv.Table
	way        int
	out, first int
}

// batch converts a batch that is nobody else's, where it stands.
func (t *turn) batch(b *api.Batch) {
	for _, r := range b.Resources {
		for _, s := range r.Scopes {
			head := keyHead(r, s)
			for i := range s.Metrics {
				t.metric(head, &s.Metrics[i])
			}
		}
	}
}

// headParts is how many parts of a key tell the resource and the scope. A key's
// parts stand one behind the other, and an empty one is a byte: so a key is the
// head of one without a metric, and the tail of one without these. The head is
// worked out once, however many points there are.
const headParts = 6

func keyHead(r api.ResourceMetrics, s api.ScopeMetrics) string {
	key := ident.Key(r, s, api.Metric{}, nil)
	return key[:len(key)-len(keyTail(api.Metric{}, nil))]
}

func keyTail(m api.Metric, l []api.KeyValue) string {
	return ident.Key(api.ResourceMetrics{}, api.ScopeMetrics{}, m, l)[headParts:]
}

func (t *turn) metric(head string, m *api.Metric) {
	to, turned := t.temporality(*m)
	if !turned {
		return
	}
	put := func(l []api.KeyValue, p conv.Point) (conv.Point, bool) {
		return t.put(head+keyTail(*m, l), m.Monotonic, p)
	}
	m.Numbers = convert(m.Numbers, func(x api.Number) (api.Number, bool) {
		p, told := put(x.Attrs, conv.Point{Kind: 2, Number: x})
		return p.Number, told
	})
	m.Hists = convert(m.Hists, func(x api.Hist) (api.Hist, bool) {
		p, told := put(x.Attrs, conv.Point{Kind: 3, Hist: x})
		return p.Hist, told
	})
	m.Exps = convert(m.Exps, func(x api.Exp) (api.Exp, bool) {
		p, told := put(x.Attrs, conv.Point{Kind: 4, Exp: x})
		return p.Exp, told
	})
	m.Temporality = to
}

// temporality is the one that a metric has behind its conversion, and whether it is converted.
func (t *turn) temporality(m api.Metric) (int32, bool) {
	from, to := int32(api.Delta), int32(api.Cumulative)
	switch t.way {
	case Down:
		from, to = to, from
		fallthrough
	case Up:
		return to, m.Kind >= 2 && m.Kind <= 4 && m.Temporality == from
	}
	return 0, false
}

// convert is what is told of each of a list.
func convert[T any](l []T, one func(x T) (T, bool)) []T {
	var to []T
	for _, x := range l {
		if y, told := one(x); told {
			to = append(to, y)
		}
	}
	return to
}

// put hands a point to the table, and tells whether it stands.
func (t *turn) put(key string, mono bool, p conv.Point) (conv.Point, bool) {
	var verdict int
	if t.way == Up {
		p, verdict = t.table.Up(key, p)
	} else {
		p, verdict = t.table.Down(key, mono, p)
	}
	switch verdict {
	case conv.Told, conv.Started, conv.Restarted:
		return p, true
	}
	if t.out == 0 {
		t.first = verdict
	}
	t.out++
	return conv.Point{}, false
}
