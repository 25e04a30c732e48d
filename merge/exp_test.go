package merge_test

import (
	"math"
	"math/rand"
	"slices"
	"testing"

	"hygrometer/api"
	"hygrometer/blame"
	"hygrometer/exph"
	"hygrometer/merge"
)

func side(offset int32, counts ...uint64) api.Buckets {
	return api.Buckets{Offset: offset, Counts: counts}
}

// P25.2
func TestTrimDown(t *testing.T) {
	const most = math.MaxInt32
	for i, c := range []struct {
		b    api.Buckets
		by   int
		want api.Buckets
		code api.Code
	}{
		{side(5), 0, side(0), 0}, {side(5, 0, 0), 0, side(0), 0}, {side(-1, 0, 1, 0, 2, 0), 0, side(0, 1, 0, 2), 0}, {side(most, 0, 0), 0, side(0), 0}, {side(most, 1, 2), 0, side(most, 1, 2), 0}, {side(most, 0, 2), 0, side(0), api.ErrRange}, {side(math.MinInt32, 0, 3), 0, side(math.MinInt32+1, 3), 0},
		{api.Buckets{Offset: 1, Counts: []uint64{1}, Unknown: "\x18\x01"}, 0, side(1, 1), 0}, {api.Buckets{Unknown: "\x18\x01"}, 0, side(0), 0},
		{side(-1, 1, 1), 1, side(-1, 1, 1), 0}, {side(0, 1, 1), 1, side(0, 2), 0}, {side(1, 1, 0, 0, 2), 1, side(0, 1, 0, 2), 0}, {side(-3, 1, 2, 3, 4), 2, side(-1, 6, 4), 0}, {side(1, 1, 1, 1), 1, side(0, 1, 2), 0}, {side(math.MinInt32, 1), 31, side(-1, 1), 0}, {side(most, 1), 31, side(0, 1), 0}, {side(most, 1, 1), 31, side(0, 1, 1), 0}, {side(most, 0, 0, 1), 1, side(1<<30, 1), 0},
		{side(0, math.MaxUint64, 1), 1, side(0), api.ErrRange}, {side(0, math.MaxUint64, 0, 1), 1, side(0, math.MaxUint64, 1), 0}, {side(0, 1), -1, side(0), api.ErrRange}, {side(0, 1), 32, side(0), api.ErrRange}, {side(0, 1), math.MinInt, side(0), api.ErrRange}, {side(0, 1), math.MaxInt, side(0), api.ErrRange}, {side(0), 31, side(0), 0},
	} {
		got, err := merge.Down(c.b, c.by)
		if blame.Code(err) != c.code || !exph.SameBuckets(got, c.want) {
			t.Errorf("case %d: %v, %v", i, got, err)
		}
		if c.by != 0 {
			continue
		}
		if got, err := merge.Trim(c.b); blame.Code(err) != c.code || !exph.SameBuckets(got, c.want) {
			t.Errorf("case %d: Trim %v, %v", i, got, err)
		}
	}
}

func exps() (api.Exp, api.Exp) {
	a := api.Exp{Attrs: attrs("a"), Start: 1, Time: 2, Count: 30, Sum: opt(3), Min: opt(4), Max: opt(5), Scale: 3, Zero: 6, HasPos: true, Pos: side(4, 1, 2), HasNeg: true, Neg: api.Buckets{Counts: []uint64{5}, Unknown: "\x18\x01"}, Exemplars: make([]api.Exemplar, 1), Flags: 1, Threshold: 7, Unknown: "\x08\x01"}
	b := api.Exp{Attrs: attrs("b"), Start: 11, Time: 12, Count: 13, Sum: opt(14), Min: opt(-15), Max: opt(-16), Scale: 2, Zero: 4, HasPos: true, Pos: side(1, 0, 3), HasNeg: true, Neg: side(-1, 1, 2), Exemplars: make([]api.Exemplar, 2), Flags: 2, Threshold: 7, Unknown: "\x08\x02"}
	return a, b
}

// P25.3
func TestExp(t *testing.T) {
	a, b := exps()
	want := b
	want.Start, want.Count, want.Zero, want.Sum, want.Min, want.Max, want.Pos, want.Neg = 1, 43, 10, opt(17), opt(-15), opt(5), side(2, 6), side(-1, 1, 7)
	if got, err := merge.Exp(a, b, 2); err != nil || !exph.Same(got, want) {
		t.Errorf("%+v, %v", got, err)
	}
	back := a
	back.Start, back.Scale, back.Count, back.Zero, back.Sum, back.Min, back.Max, back.Pos, back.Neg = 11, 2, 43, 10, opt(17), opt(-15), opt(5), side(2, 6), side(-1, 1, 7)
	if got, err := merge.Exp(b, a, 2); err != nil || !exph.Same(got, back) {
		t.Errorf("%+v, %v", got, err)
	}
	for i := range 6 {
		a, b := exps()
		x, want := []*api.Opt{&a.Sum, &a.Min, &a.Max, &b.Sum, &b.Min, &b.Max}[i], want
		*x = api.Opt{}
		*[]*api.Opt{&want.Sum, &want.Min, &want.Max}[i%3] = api.Opt{}
		if got, err := merge.Exp(a, b, 2); err != nil || !exph.Same(got, want) {
			t.Errorf("without number %d: %+v, %v", i, got, err)
		}
	}
	// To lie within one place, -1 and 0 would have to be shifted together, which no shift does.
	if got, err := merge.Exp(a, b, 1); blame.Code(err) != api.ErrRange || !exph.Same(got, api.Exp{}) {
		t.Error(got, err)
	}
	wrong := func(what string, code api.Code, most int, change func(a, b *api.Exp)) {
		t.Helper()
		a, b := exps()
		change(&a, &b)
		if got, err := merge.Exp(a, b, most); blame.Code(err) != code || !exph.Same(got, api.Exp{}) {
			t.Errorf("%s: %+v, %v", what, got, err)
		}
	}
	wrong("Threshold", api.ErrUnlike, 0, func(a, b *api.Exp) { a.Threshold = 8 })
	wrong("most", api.ErrRange, 0, func(a, b *api.Exp) {})
	wrong("most", api.ErrRange, -1, func(a, b *api.Exp) {})
	wrong("most", api.ErrRange, api.MaxCounts+1, func(a, b *api.Exp) {})
	wrong("Count", api.ErrRange, 9, func(a, b *api.Exp) { a.Count = math.MaxUint64 })
	wrong("Zero", api.ErrRange, 9, func(a, b *api.Exp) { a.Zero = math.MaxUint64 })
	wrong("a count", api.ErrRange, 9, func(a, b *api.Exp) { b.Pos.Counts[1] = math.MaxUint64 - 2 })
	wrong("counts of one", api.ErrRange, 9, func(a, b *api.Exp) { a.Pos.Counts[0] = math.MaxUint64 - 1 })
	wrong("a shift", api.ErrRange, 9, func(a, b *api.Exp) { a.Scale, b.Scale = 20, -12 })
	wrong("a shift of one without counts", api.ErrRange, 9, func(a, b *api.Exp) {
		*a, *b = api.Exp{Scale: math.MaxInt32, Threshold: 7}, api.Exp{Scale: math.MinInt32, Threshold: 7}
	})
	wrong("the least scale", api.ErrRange, 2, func(a, b *api.Exp) { a.Scale, b.Scale, a.Pos = -10, -10, side(9, 1) })
	wrong("an Offset", api.ErrRange, 2, func(a, b *api.Exp) { a.Scale, a.Pos, b.Pos = 2, side(math.MaxInt32, 0, 1), side(0) })
}

// P25.3: what is at the edges, and fits.
func TestExpEdges(t *testing.T) {
	for i, c := range []struct {
		a, b  api.Exp
		most  int
		scale int32
		pos   api.Buckets
	}{
		{api.Exp{Scale: -30}, api.Exp{Scale: -30}, 1, -30, side(0)}, {api.Exp{Scale: 20}, api.Exp{Scale: -11}, 1, -11, side(0)}, {api.Exp{Scale: math.MinInt32}, api.Exp{Scale: math.MinInt32 + 31}, 320, math.MinInt32, side(0)},
		{api.Exp{Scale: -9, Pos: side(0, 1)}, api.Exp{Scale: -9, Pos: side(1, 1)}, 1, -10, side(0, 2)},
		{api.Exp{Scale: 20, Pos: side(math.MaxInt32, 0, 1)}, api.Exp{Scale: 20, Pos: side(math.MaxInt32, 3)}, 2, 20, side(math.MaxInt32, 3, 1)},
		{api.Exp{Scale: 20, Pos: side(math.MinInt32, 1)}, api.Exp{Scale: 20, Pos: side(-1, 1)}, 2, -10, side(-2, 1, 1)},
		{api.Exp{Scale: 0, Pos: side(0, 1, 0, 0, 0, 0)}, api.Exp{Scale: 0, Pos: side(-9, 0, 0, 0, 0, 0, 0, 0, 0, 1)}, 2, 0, side(-1, 1, 1)},
		{api.Exp{Scale: 5, Pos: side(64, 4)}, api.Exp{Scale: 0, Pos: side(5, 1)}, 4, 0, side(2, 4, 0, 0, 1)}, {api.Exp{Scale: 5, Pos: side(64, 4)}, api.Exp{Scale: 0, Pos: side(5, 1)}, 3, -1, side(1, 4, 1)},
	} {
		c.a.HasPos, c.b.HasPos = true, true
		for range 2 {
			got, err := merge.Exp(c.a, c.b, c.most)
			if err != nil || got.Scale != c.scale || !exph.SameBuckets(got.Pos, c.pos) || !got.HasPos || got.HasNeg {
				t.Errorf("case %d: %+v, %v", i, got, err)
			}
			c.a, c.b = c.b, c.a
		}
	}
	only := api.Exp{Scale: 1, HasPos: true, Pos: side(7, 1), Neg: side(1, 9, 0, 0, 0, 9)}
	for _, l := range [][]api.Exp{{only, {Scale: 1}}, {{Scale: 1}, only}} {
		got, err := merge.Exp(l[0], l[1], 1)
		if err != nil || !exph.Same(got, api.Exp{Scale: 1, HasPos: true, Pos: side(7, 1)}) {
			t.Errorf("a side of one alone: %+v, %v", got, err)
		}
	}
	got, err := merge.Exp(api.Exp{HasNeg: true, Neg: side(3, 0)}, api.Exp{Pos: side(3, 5)}, 1)
	if err != nil || !exph.Same(got, api.Exp{HasNeg: true}) {
		t.Errorf("sides without counts: %+v, %v", got, err)
	}
}

// P25.3
func TestFit(t *testing.T) {
	a, _ := exps()
	a.Pos = side(4, 0, 1, 2, 0)
	want := a
	want.Pos, want.Neg = side(5, 1, 2), side(0, 5)
	if got, err := merge.Fit(a, 2); err != nil || !exph.Same(got, want) {
		t.Errorf("%+v, %v", got, err)
	}
	want.Scale, want.Pos = 1, side(1, 3)
	if got, err := merge.Fit(a, 1); err != nil || !exph.Same(got, want) {
		t.Errorf("%+v, %v", got, err)
	}
	without := a
	without.HasNeg, without.Neg = false, side(0)
	want = without
	want.Pos = side(5, 1, 2)
	if got, err := merge.Fit(without, 9); err != nil || !exph.Same(got, want) {
		t.Errorf("%+v, %v", got, err)
	}
	for i, c := range []struct {
		x    api.Exp
		most int
	}{{api.Exp{}, 0}, {api.Exp{}, 321}, {api.Exp{}, math.MinInt}, {api.Exp{HasPos: true, Pos: side(-1, 1, 1)}, 1}, {api.Exp{Scale: -10, HasNeg: true, Neg: side(0, 1, 1)}, 1}, {api.Exp{Scale: 20, HasNeg: true, Neg: side(math.MaxInt32, 0, 1)}, 1}, {api.Exp{Scale: 2, HasPos: true, Pos: side(0, math.MaxUint64, 1)}, 1}} {
		if got, err := merge.Fit(c.x, c.most); blame.Code(err) != api.ErrRange || !exph.Same(got, api.Exp{}) {
			t.Errorf("case %d: %+v, %v", i, got, err)
		}
	}
	if got, err := merge.Fit(api.Exp{Scale: -99, HasPos: true, Pos: side(5, 0, 7)}, 1); err != nil || got.Scale != -99 || !exph.SameBuckets(got.Pos, side(6, 7)) {
		t.Error(got, err)
	}
}

// places are the counts that are not 0, by their places shifted.
func places(has bool, b api.Buckets, by int) map[int64]uint64 {
	m := map[int64]uint64{}
	for i, n := range b.Counts {
		if has && n > 0 {
			m[(int64(b.Offset)+int64(i))>>by] += n
		}
	}
	return m
}

// P25.3, P25.6: the least shift is taken, and the total of counts is kept.
func TestMany(t *testing.T) {
	rnd := rand.New(rand.NewSource(25))
	random := func() api.Exp {
		x := api.Exp{Scale: int32(rnd.Intn(8)), HasPos: rnd.Intn(4) > 0}
		if x.HasPos {
			x.Pos.Offset = int32(rnd.Intn(60) - 30)
			for range rnd.Intn(12) {
				x.Pos.Counts = append(x.Pos.Counts, uint64(rnd.Intn(3)))
			}
		}
		return x
	}
	wide := func(m map[int64]uint64) int {
		if len(m) == 0 {
			return 0
		}
		from, to := int64(math.MaxInt64), int64(math.MinInt64)
		for place := range m {
			from, to = min(from, place), max(to, place)
		}
		return int(to-from) + 1
	}
	for range 20000 {
		a, b, most := random(), random(), 1+rnd.Intn(8)
		got, err := merge.Exp(a, b, most)
		d := 0
		var want map[int64]uint64
		for {
			scale := min(a.Scale, b.Scale) - int32(d)
			want = places(a.HasPos, a.Pos, int(a.Scale-scale))
			for place, n := range places(b.HasPos, b.Pos, int(b.Scale-scale)) {
				want[place] += n
			}
			if wide(want) <= most || scale < api.MinScale {
				break
			}
			d++
		}
		scale := min(a.Scale, b.Scale) - int32(d)
		if (scale < api.MinScale) != (err != nil) {
			t.Fatalf("%+v, %+v, %d: %+v, %v", a, b, most, got, err)
		}
		if err != nil {
			continue
		}
		have := places(true, got.Pos, 0)
		same := len(have) == len(want) && got.Scale == scale && len(got.Pos.Counts) == wide(want)
		for place, n := range want {
			same = same && have[place] == n
		}
		if !same {
			t.Fatalf("%+v, %+v, %d: %+v", a, b, most, got)
		}
	}
}

// P25.4
func TestLessExp(t *testing.T) {
	_, was := exps()
	now := was
	now.Time, now.Start, now.Count, now.Zero, now.Sum, now.Pos, now.Neg = 20, 1, 40, 5, opt(10), side(0, 9, 9, 9), side(-1, 1, 2, 3)
	want := now
	want.Start, want.Count, want.Zero, want.Sum, want.Min, want.Max, want.Pos, want.Neg = 12, 27, 1, opt(-4), api.Opt{}, api.Opt{}, side(0, 9, 9, 6), side(1, 3)
	if got, err := merge.LessExp(now, was); err != nil || !exph.Same(got, want) {
		t.Errorf("%+v, %v", got, err)
	}
	ok := func(what string, want api.Buckets, change func(now, was *api.Exp)) {
		t.Helper()
		now, was := now, was
		change(&now, &was)
		if got, err := merge.LessExp(now, was); err != nil || got.HasNeg != now.HasNeg || !exph.SameBuckets(got.Neg, want) {
			t.Errorf("%s: %+v, %v", what, got, err)
		}
	}
	ok("all of it", side(0), func(now, was *api.Exp) { was.Neg = now.Neg })
	ok("of none", side(-1, 1, 2, 3), func(now, was *api.Exp) { was.HasNeg, was.Neg = false, side(0) })
	ok("of zeros elsewhere", side(-1, 1, 2, 3), func(now, was *api.Exp) { was.Neg = side(-9, 0, 0) })
	ok("none of none", side(0), func(now, was *api.Exp) {
		now.HasNeg, was.HasNeg, now.Neg, was.Neg = false, false, side(0), side(0)
	})
	ok("none of zeros", side(0), func(now, was *api.Exp) { now.HasNeg, was.Neg = false, side(5, 0) })
	ok("far away", side(math.MaxInt32, 2), func(now, was *api.Exp) {
		now.Neg, was.Neg = side(math.MaxInt32, 3, 4), side(math.MaxInt32, 1, 4)
	})
	wrong := func(what string, code api.Code, change func(now, was *api.Exp)) {
		t.Helper()
		now, was := now, was
		change(&now, &was)
		if got, err := merge.LessExp(now, was); blame.Code(err) != code || !exph.Same(got, api.Exp{}) {
			t.Errorf("%s: %+v, %v", what, got, err)
		}
	}
	wrong("Scale", api.ErrUnlike, func(now, was *api.Exp) { was.Scale++; was.Count = 99 })
	wrong("Threshold", api.ErrUnlike, func(now, was *api.Exp) { was.Threshold++ })
	wrong("Count", api.ErrRange, func(now, was *api.Exp) { was.Count = 41 })
	wrong("Zero", api.ErrRange, func(now, was *api.Exp) { was.Zero = 6 })
	wrong("a count", api.ErrRange, func(now, was *api.Exp) { was.Pos = side(1, 10) })
	wrong("ahead", api.ErrRange, func(now, was *api.Exp) { was.Pos = side(-1, 1) })
	wrong("behind", api.ErrRange, func(now, was *api.Exp) { was.Pos = side(3, 1) })
	wrong("where now has none", api.ErrRange, func(now, was *api.Exp) { now.HasPos, now.Pos = false, side(0) })
	wrong("an Offset", api.ErrRange, func(now, was *api.Exp) {
		now.Pos, was.Pos = side(math.MaxInt32, 3, 4), side(math.MaxInt32, 3)
	})
	was.Sum = api.Opt{}
	if got, err := merge.LessExp(now, was); err != nil || got.Sum != (api.Opt{}) {
		t.Error(got, err)
	}
}

// P25.5
func TestNewExp(t *testing.T) {
	a, b := exps()
	b.Scale, b.Neg = 3, side(0, 1)
	sum, _ := merge.Exp(a, b, 320)
	fit, _ := merge.Fit(a, 320)
	less, err := merge.LessExp(sum, b)
	if err != nil {
		t.Fatal(err)
	}
	trim, _ := merge.Trim(a.Pos)
	for _, x := range []api.Exp{sum, fit, less} {
		x.Attrs[0].Key, x.Pos.Counts[0], x.Neg.Counts[0], x.Exemplars[0].Time = "z", 99, 99, 99
		_ = append(x.Pos.Counts, 5)
	}
	trim.Counts[0] = 99
	if c, d := exps(); !exph.Same(a, c) || !slices.Equal(b.Pos.Counts, d.Pos.Counts) || b.Neg.Counts[0] != 1 || b.Attrs[0].Key != "b" {
		t.Error("shared memory")
	}
}
