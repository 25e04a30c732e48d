package merge

import (
	"errors"
	"slices"

	"hygrometer/api"
	"hygrometer/blame"
	"hygrometer/fadd"
	"hygrometer/flt"
	"hygrometer/fresh"
)

const (
	mostShift = 31
	lastPlace = 1<<31 - 1 // the greatest Offset
)

// errWide tells that counts lie within more places than may be.
var errWide = errors.New("too wide")

// part is a side, and how far its places are shifted.
type part struct {
	b  api.Buckets
	by int
}

// each goes through the counts that are not 0, with their places after the shift.
func (p part) each(f func(place int64, n uint64)) {
	for i, n := range p.b.Counts {
		if n != 0 {
			f((int64(p.b.Offset)+int64(i))>>p.by, n)
		}
	}
}

// ends are the least place that some parts have a count at, and the one behind
// the greatest; the same one twice, if there is none.
func ends(l ...part) (int64, int64) {
	var from, to int64
	for _, p := range l {
		p.each(func(place int64, _ uint64) {
			if from == to {
				from, to = place, place+1
			}
			from, to = min(from, place), max(to, place+1)
		})
	}
	return from, to
}

// add is the trimmed side that parts make together.
func add(l ...part) (api.Buckets, error) {
	from, to := ends(l...)
	if from == to {
		return api.Buckets{}, nil
	}
	if from > lastPlace {
		return api.Buckets{}, blame.In(1, api.ErrRange)
	}
	counts := make([]uint64, to-from)
	var e edge
	for _, p := range l {
		p.each(func(place int64, n uint64) {
			counts[place-from] = e.plus(2, counts[place-from], n)
		})
	}
	if e.err != nil {
		return api.Buckets{}, e.err
	}
	return api.Buckets{Offset: int32(from), Counts: counts}, nil
}

// Trim is b without the zeros at both ends.
func Trim(b api.Buckets) (api.Buckets, error) { return add(part{b: b}) }

// Down is b with its places shifted.
func Down(b api.Buckets, by int) (api.Buckets, error) {
	if by < 0 || by > mostShift {
		return api.Buckets{}, blame.At(by, api.ErrRange)
	}
	return add(part{b: b, by: by})
}

// sides are the parts of both sides of some points.
type sides struct{ pos, neg []part }

// take adds the sides that a point has, shifted.
func (s *sides) take(x api.Exp, by int) {
	if x.HasPos {
		s.pos = append(s.pos, part{b: x.Pos, by: by})
	}
	if x.HasNeg {
		s.neg = append(s.neg, part{b: x.Neg, by: by})
	}
}

// put sets both sides of a point.
func (s *sides) put(x *api.Exp) error {
	var err error
	x.Pos, err = add(s.pos...)
	if err != nil {
		return blame.In(8, err)
	}
	x.Neg, err = add(s.neg...)
	return blame.In(9, err)
}

// fitted are the sides of two points at the greatest scale, not above theirs, at
// which the counts of each side lie within most places; and that scale.
func fitted(a, b api.Exp, most int) (sides, int32, error) {
	if most < 1 || most > api.MaxCounts {
		return sides{}, 0, blame.At(most, api.ErrRange)
	}
	for scale := int64(min(a.Scale, b.Scale)); ; scale-- {
		s, err := fittedAt(a, b, most, scale)
		if !errors.Is(err, errWide) {
			return s, int32(scale), err
		}
	}
}

// fittedAt are the sides of two points at a scale.
func fittedAt(a, b api.Exp, most int, scale int64) (sides, error) {
	byA, byB := int64(a.Scale)-scale, int64(b.Scale)-scale
	if max(byA, byB) > mostShift || min(byA, byB) > 0 && scale < api.MinScale {
		return sides{}, blame.In(6, api.ErrRange)
	}
	var s sides
	s.take(a, int(byA))
	s.take(b, int(byB))
	for _, l := range [][]part{s.pos, s.neg} {
		if from, to := ends(l...); to-from > int64(most) {
			return sides{}, errWide
		}
	}
	return s, nil
}

// Exp adds b to a.
func Exp(a, b api.Exp, most int) (api.Exp, error) {
	if a.Threshold != b.Threshold {
		return api.Exp{}, blame.In(14, api.ErrUnlike)
	}
	s, scale, err := fitted(a, b, most)
	if err != nil {
		return api.Exp{}, err
	}
	to := b
	to.Start, to.Scale = a.Start, scale
	to.Sum = both(a.Sum, b.Sum, fadd.Add)
	to.Min = both(a.Min, b.Min, flt.Min)
	to.Max = both(a.Max, b.Max, flt.Max)
	to.HasPos, to.HasNeg = a.HasPos || b.HasPos, a.HasNeg || b.HasNeg
	var e edge
	to.Count = e.plus(4, a.Count, b.Count)
	to.Zero = e.plus(7, a.Zero, b.Zero)
	if e.err != nil {
		return api.Exp{}, e.err
	}
	if err := s.put(&to); err != nil {
		return api.Exp{}, err
	}
	return fresh.Exp(to), nil
}

// Fit is x at a scale at which its counts lie within most places.
func Fit(x api.Exp, most int) (api.Exp, error) {
	s, scale, err := fitted(x, api.Exp{Scale: x.Scale}, most)
	if err != nil {
		return api.Exp{}, err
	}
	x.Scale = scale
	if err := s.put(&x); err != nil {
		return api.Exp{}, err
	}
	return fresh.Exp(x), nil
}

// LessExp takes was away from now.
func LessExp(now, was api.Exp) (api.Exp, error) {
	if now.Scale != was.Scale || now.Threshold != was.Threshold {
		return api.Exp{}, blame.In(6, api.ErrUnlike)
	}
	to := now
	to.Start = was.Time
	to.Sum = both(now.Sum, was.Sum, fadd.Sub)
	to.Min, to.Max = api.Opt{}, api.Opt{}
	var e edge
	to.Count = e.minus(4, now.Count, was.Count)
	to.Zero = e.minus(7, now.Zero, was.Zero)
	if e.err != nil {
		return api.Exp{}, e.err
	}
	// A side without Has has no counts.
	var a, b sides
	a.take(now, 0)
	b.take(was, 0)
	var err error
	if to.Pos, err = less(a.pos, b.pos); err != nil {
		return api.Exp{}, blame.In(8, err)
	}
	if to.Neg, err = less(a.neg, b.neg); err != nil {
		return api.Exp{}, blame.In(9, err)
	}
	return fresh.Exp(to), nil
}

// less takes the counts of a side that was away from those of the side that is
// now; each is a list of one part, or of none.
func less(now, was []part) (api.Buckets, error) {
	var left api.Buckets
	for _, p := range now {
		left = api.Buckets{Offset: p.b.Offset, Counts: slices.Clone(p.b.Counts)}
	}
	var e edge
	for _, p := range was {
		p.each(func(place int64, n uint64) {
			at := place - int64(left.Offset)
			if at < 0 || at >= int64(len(left.Counts)) {
				e.minus(2, 0, n)
			} else {
				left.Counts[at] = e.minus(2, left.Counts[at], n)
			}
		})
	}
	if e.err != nil {
		return api.Buckets{}, e.err
	}
	return Trim(left)
}
