package conv

import (
	"hygrometer/api"
	"hygrometer/blame"
	"hygrometer/fresh"
	"hygrometer/merge"
)

// Point is a point of Kind 2 Number, 3 Hist or 4 Exp; the other two count for nothing.
type Point struct {
	Kind   int
	Number api.Number
	Hist   api.Hist
	Exp    api.Exp
}

// known tells whether a Kind is one of those that can be converted.
func known(kind int) bool {
	switch kind {
	case 2:
		fallthrough
	case 3:
		fallthrough
	case 4:
		return true
	}
	return false
}

// Start is that of its Kind.
func (p Point) Start() uint64 {
	switch p.Kind {
	case 2:
		return p.Number.Start
	case 3:
		return p.Hist.Start
	case 4:
		return p.Exp.Start
	}
	return 0
}

// Time is that of its Kind.
func (p Point) Time() uint64 {
	switch p.Kind {
	case 2:
		return p.Number.Time
	case 3:
		return p.Hist.Time
	case 4:
		return p.Exp.Time
	}
	return 0
}

// own is p in new memory, without what counts for nothing.
func own(p Point) Point {
	switch p.Kind {
	case 2:
		return Point{Kind: 2, Number: fresh.Number(p.Number)}
	case 3:
		return Point{Kind: 3, Hist: fresh.Hist(p.Hist)}
	case 4:
		return Point{Kind: 4, Exp: fresh.Exp(p.Exp)}
	}
	return Point{}
}

// fit is p on its own, an Exp with so many buckets at most.
func fit(p Point, buckets int) (Point, error) {
	if !known(p.Kind) {
		return Point{}, blame.In(p.Kind, api.ErrInvalid)
	}
	p = own(p)
	var err error
	if p.Kind == 4 {
		p.Exp, err = merge.Fit(p.Exp, buckets)
	}
	return p, err
}

// add adds p to a state.
func add(state, p Point, buckets int) (Point, error) {
	if state.Kind != p.Kind {
		return Point{}, blame.In(p.Kind, api.ErrUnlike)
	}
	to := Point{Kind: p.Kind}
	var err error
	switch p.Kind {
	case 2:
		to.Number, err = merge.Number(state.Number, p.Number)
	case 3:
		to.Hist, err = merge.Hist(state.Hist, p.Hist)
	case 4:
		to.Exp, err = merge.Exp(state.Exp, p.Exp, buckets)
	}
	return to, err
}

// less takes a state away from p, which goes on from the same start.
func less(p, state Point, mono bool) (Point, error) {
	if state.Kind != p.Kind || state.Start() != p.Start() {
		return Point{}, blame.In(p.Kind, api.ErrUnlike)
	}
	to := Point{Kind: p.Kind}
	var err error
	switch p.Kind {
	case 2:
		to.Number, err = merge.LessNumber(p.Number, state.Number, mono)
	case 3:
		to.Hist, err = merge.LessHist(p.Hist, state.Hist)
	case 4:
		to.Exp, err = merge.LessExp(p.Exp, state.Exp)
	}
	return to, err
}
