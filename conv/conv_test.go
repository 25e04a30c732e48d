package conv_test

import (
	"math"
	"slices"
	"testing"

	"hygrometer/api"
	"hygrometer/blame"
	"hygrometer/conv"
	"hygrometer/exph"
	"hygrometer/fadd"
	"hygrometer/hist"
	"hygrometer/number"
)

var f = math.Float64bits

// sum is a point of a sum, of whole numbers.
func sum(start, time, n uint64) conv.Point {
	return conv.Point{Kind: 2, Number: api.Number{Start: start, Time: time, Kind: 2, N: n}}
}

func histogram(start, time uint64, counts ...uint64) conv.Point {
	return conv.Point{Kind: 3, Hist: api.Hist{Start: start, Time: time, Counts: counts}}
}

func exp(start, time uint64, scale, offset int32, counts ...uint64) conv.Point {
	return conv.Point{Kind: 4, Exp: api.Exp{Start: start, Time: time, Scale: scale, HasPos: true, Pos: api.Buckets{Offset: offset, Counts: counts}}}
}

func same(a, b conv.Point) bool {
	return a.Kind == b.Kind && number.Same(a.Number, b.Number) && hist.Same(a.Hist, b.Hist) && exph.Same(a.Exp, b.Exp)
}

func table(t *testing.T, streams, buckets, ticks int) *conv.Table {
	t.Helper()
	table, err := conv.New(streams, buckets, ticks)
	if err != nil {
		t.Fatal(err)
	}
	return table
}

// P26.1
func TestNew(t *testing.T) {
	for _, c := range [][3]int{{0, 1, 1}, {1001, 1, 1}, {-1, 1, 1}, {1, 0, 1}, {1, 321, 1}, {1, 1, 0}, {1, 1, 1000001}, {1, 1, math.MinInt}, {math.MaxInt, 1, 1}} {
		if table, err := conv.New(c[0], c[1], c[2]); table != nil || blame.Code(err) != api.ErrRange {
			t.Error(c, err)
		}
	}
	for _, c := range [][3]int{{1, 1, 1}, {1000, 320, 1000000}} {
		table, err := conv.New(c[0], c[1], c[2])
		if err != nil || table.Len() != 0 || len(table.Keys()) != 0 {
			t.Error(c, err)
		}
		if p, ok := table.State(""); ok || !same(p, conv.Point{}) {
			t.Error("a state of none")
		}
	}
}

// step is one point, what is told of it, and the state behind it.
type step struct {
	key         string
	p           conv.Point
	verdict     int
	told, state conv.Point
}

func play(t *testing.T, put func(key string, p conv.Point) (conv.Point, int), state func(key string) (conv.Point, bool), l []step) {
	t.Helper()
	for i, s := range l {
		told, verdict := put(s.key, s.p)
		now, ok := state(s.key)
		if verdict != s.verdict || !same(told, s.told) || !same(now, s.state) || ok != (s.state.Kind != 0) {
			t.Fatalf("step %d: %s %+v, state %+v", i, conv.Name(verdict), told, now)
		}
	}
}

// P26.2
func TestUp(t *testing.T) {
	none := conv.Point{}
	double := conv.Point{Kind: 2, Number: api.Number{Start: 40, Time: 41, Kind: 1, N: f(1)}}
	wild := sum(50, 51, 1)
	wild.Hist.Time, wild.Exp.Time = 99, 99
	valueless := conv.Point{Kind: 2, Number: api.Number{Start: 80, Time: 81}}
	tb := table(t, 3, 4, 2)
	play(t, tb.Up, tb.State, []step{
		{"a", conv.Point{Kind: 1, Number: api.Number{Time: 5}}, conv.Unfit, none, none}, {"a", conv.Point{Kind: 5}, conv.Unfit, none, none}, {"a", none, conv.Unfit, none, none}, {"a", conv.Point{Kind: -2}, conv.Unfit, none, none},
		{"a", sum(1, 3, 5), conv.Started, sum(1, 3, 5), sum(1, 3, 5)},
		{"a", sum(3, 4, 6), conv.Told, sum(1, 4, 11), sum(1, 4, 11)},
		{"a", sum(3, 9, 6), conv.Elder, none, sum(1, 4, 11)},
		{"a", sum(9, 3, 6), conv.Elder, none, sum(1, 4, 11)},
		{"a", sum(4, 4, 0), conv.Told, sum(1, 4, 11), sum(1, 4, 11)},
		{"a", sum(8, 6, math.MaxInt64), conv.Restarted, sum(8, 6, math.MaxInt64), sum(8, 6, math.MaxInt64)},
		{"a", histogram(7, 8, 1), conv.Restarted, histogram(7, 8, 1), histogram(7, 8, 1)},
		{"a", histogram(8, 9, 2), conv.Told, histogram(7, 9, 3), histogram(7, 9, 3)},
		{"a", histogram(9, 10, 2, 3), conv.Restarted, histogram(9, 10, 2, 3), histogram(9, 10, 2, 3)},
		{"a", double, conv.Restarted, double, double},
		{"a", wild, conv.Restarted, sum(50, 51, 1), sum(50, 51, 1)},
		{"a", valueless, conv.Restarted, valueless, valueless}, {"a", conv.Point{Kind: 2, Number: api.Number{Start: 81, Time: 82}}, conv.Restarted, conv.Point{Kind: 2, Number: api.Number{Start: 81, Time: 82}}, conv.Point{Kind: 2, Number: api.Number{Start: 81, Time: 82}}},
		{"e", exp(1, 2, 0, 0, 1, 0, 0, 0, 1), conv.Started, exp(1, 2, -1, 0, 1, 0, 1), exp(1, 2, -1, 0, 1, 0, 1)},
		{"e", exp(2, 3, 1, 12, 2), conv.Told, exp(1, 3, -1, 0, 1, 0, 1, 2), exp(1, 3, -1, 0, 1, 0, 1, 2)},
		{"e", exp(3, 4, 0, 8, 1), conv.Told, exp(1, 4, -2, 0, 1, 3, 1), exp(1, 4, -2, 0, 1, 3, 1)},
		{"e", exp(4, 5, 0, -1, 1, 1), conv.Told, exp(1, 5, -2, -1, 1, 2, 3, 1), exp(1, 5, -2, -1, 1, 2, 3, 1)},
		{"e", exp(5, 6, -10, -3, 1, 0, 0, 0, 0, 0, 1), conv.Unfit, none, exp(1, 5, -2, -1, 1, 2, 3, 1)},
		{"e", exp(5, 6, -10, -3, 1, 1), conv.Told, exp(1, 6, -10, -3, 1, 1, 1, 6), exp(1, 6, -10, -3, 1, 1, 1, 6)},
		{"e", exp(6, 7, -10, 1, 1), conv.Restarted, exp(6, 7, -10, 1, 1), exp(6, 7, -10, 1, 1)},
		{"e", exp(7, 8, -8, 0, 0, 1, 0, 0, 0, 0, 0, 0, 1), conv.Told, exp(6, 8, -10, 0, 1, 1, 1), exp(6, 8, -10, 0, 1, 1, 1)},
		{"", sum(1, 1, 1), conv.Started, sum(1, 1, 1), sum(1, 1, 1)},
		{"b", sum(1, 1, 1), conv.Full, none, none}, {"b", exp(1, 1, 0, 0, 1), conv.Full, none, none}, {"b", conv.Point{Kind: 9}, conv.Unfit, none, none},
	})
	if !slices.Equal(tb.Keys(), []string{"", "a", "e"}) || tb.Len() != 3 {
		t.Error(tb.Keys())
	}
}

// P26.2: what is kept and told when an Exp begins again is fitted.
func TestUpRestarted(t *testing.T) {
	tb := table(t, 1, 2, 9)
	wide := exp(5, 6, 0, 0, 1, 0, 0, 1)
	play(t, tb.Up, tb.State, []step{
		{"a", sum(1, 2, 3), conv.Started, sum(1, 2, 3), sum(1, 2, 3)},
		{"a", wide, conv.Restarted, exp(5, 6, -1, 0, 1, 1), exp(5, 6, -1, 0, 1, 1)},
	})
}

// P26.3
func TestDown(t *testing.T) {
	none := conv.Point{}
	tb := table(t, 2, 1, 2)
	mono := func(key string, p conv.Point) (conv.Point, int) { return tb.Down(key, true, p) }
	free := func(key string, p conv.Point) (conv.Point, int) { return tb.Down(key, false, p) }
	wild := sum(2, 30, 1)
	wild.Hist.Time, wild.Exp.Time = 99, 99
	play(t, mono, tb.State, []step{
		{"a", conv.Point{Kind: 1}, conv.Unfit, none, none}, {"a", none, conv.Unfit, none, none},
		{"a", sum(1, 3, 5), conv.Started, sum(1, 3, 5), sum(1, 3, 5)},
		{"a", sum(1, 4, 8), conv.Told, sum(3, 4, 3), sum(1, 4, 8)},
		{"a", sum(1, 4, 9), conv.Elder, none, sum(1, 4, 8)}, {"a", sum(1, 3, 9), conv.Elder, none, sum(1, 4, 8)},
		{"a", sum(1, 5, 7), conv.Restarted, sum(1, 5, 7), sum(1, 5, 7)},
		{"a", sum(1, 6, 9), conv.Told, sum(5, 6, 2), sum(1, 6, 9)},
		{"a", sum(2, 7, 10), conv.Restarted, sum(2, 7, 10), sum(2, 7, 10)},
		{"a", histogram(2, 8, 1), conv.Restarted, histogram(2, 8, 1), histogram(2, 8, 1)},
		{"a", histogram(2, 9, 4), conv.Told, histogram(8, 9, 3), histogram(2, 9, 4)},
		{"a", histogram(2, 10, 3), conv.Restarted, histogram(2, 10, 3), histogram(2, 10, 3)},
		{"a", wild, conv.Restarted, sum(2, 30, 1), sum(2, 30, 1)},
		{"e", exp(1, 2, 0, 0, 1, 0, 0, 0, 1), conv.Started, exp(1, 2, 0, 0, 1, 0, 0, 0, 1), exp(1, 2, 0, 0, 1, 0, 0, 0, 1)},
		{"e", exp(1, 3, 0, 0, 1, 0, 0, 0, 5, 0), conv.Told, exp(2, 3, 0, 4, 4), exp(1, 3, 0, 0, 1, 0, 0, 0, 5, 0)},
		{"e", exp(1, 4, -1, 0, 9, 9, 9), conv.Restarted, exp(1, 4, -1, 0, 9, 9, 9), exp(1, 4, -1, 0, 9, 9, 9)},
		{"b", sum(1, 2, 3), conv.Full, none, none}, {"b", conv.Point{Kind: 7}, conv.Unfit, none, none},
	})
	play(t, free, tb.State, []step{
		{"a", sum(2, 31, 0), conv.Told, sum(30, 31, math.MaxUint64), sum(2, 31, 0)},
		{"a", sum(2, 32, 1<<63), conv.Told, sum(31, 32, 1<<63), sum(2, 32, 1<<63)},
		{"a", sum(2, 33, 1), conv.Restarted, sum(2, 33, 1), sum(2, 33, 1)},
	})
}

// P26.1: a stream goes when it was not seen for so many ticks; what tells nothing does not see it.
func TestTick(t *testing.T) {
	tb := table(t, 3, 4, 2)
	tick := func(gone int, keys ...string) {
		t.Helper()
		if n := tb.Tick(); n != gone || !slices.Equal(tb.Keys(), keys) || tb.Len() != len(keys) {
			t.Fatal(n, tb.Keys())
		}
	}
	tb.Up("a", sum(1, 2, 3))
	tb.Up("b", sum(1, 2, 3))
	tick(0, "a", "b")
	tb.Up("a", sum(2, 3, 3))
	tb.Up("b", sum(1, 3, 3)) // Elder
	tb.Up("b", conv.Point{Kind: 1})
	tb.Down("b", false, sum(1, 2, 3)) // Elder
	tb.Up("c", sum(1, 2, 3))
	tb.Up("d", sum(1, 2, 3)) // Full
	tick(1, "a", "c")
	tb.Down("c", false, sum(1, 3, 3))
	tb.Up("b", sum(1, 1, 1))
	tick(1, "b", "c")
	tick(2)
	tick(0)
	tb = table(t, 1, 1, 1)
	tb.Up("a", sum(1, 2, 3))
	if _, verdict := tb.Up("b", sum(1, 2, 3)); verdict != conv.Full {
		t.Error(conv.Name(verdict))
	}
	tick(1)
	if _, verdict := tb.Up("b", sum(1, 2, 3)); verdict != conv.Started {
		t.Error(conv.Name(verdict))
	}
}

// P26.6: what is told of a stream is its deltas, added from the left.
func TestFold(t *testing.T) {
	tb := table(t, 1, 4, 1)
	deltas := []uint64{f(1), f(0x1p53), f(1), f(1), f(-0x1p53), f(0.25)}
	var told conv.Point
	for i, n := range deltas {
		told, _ = tb.Up("a", conv.Point{Kind: 2, Number: api.Number{Start: uint64(i), Time: uint64(i + 1), Kind: 1, N: n}})
		if want := fadd.Sum(deltas[:i+1]...); told.Number.N != want || told.Start() != 0 {
			t.Errorf("delta %d: %X, not %X", i, told.Number.N, want)
		}
	}
}

// P26.1
func TestPoint(t *testing.T) {
	p := conv.Point{Number: api.Number{Start: 1, Time: 2}, Hist: api.Hist{Start: 3, Time: 4}, Exp: api.Exp{Start: 5, Time: 6}}
	for kind, want := range map[int][2]uint64{-1: {}, 0: {}, 1: {}, 2: {1, 2}, 3: {3, 4}, 4: {5, 6}, 5: {}} {
		p.Kind = kind
		if p.Start() != want[0] || p.Time() != want[1] {
			t.Error(kind, p.Start(), p.Time())
		}
	}
}

// P26.4
func TestName(t *testing.T) {
	if [...]int{conv.Told, conv.Started, conv.Restarted, conv.Elder, conv.Full, conv.Unfit} != [...]int{0, 1, 2, 3, 4, 5} {
		t.Error("the constants")
	}
	for verdict, name := range map[int]string{conv.Told: "told", conv.Started: "started", conv.Restarted: "restarted", conv.Elder: "elder", conv.Full: "full", conv.Unfit: "unfit", 6: "?", -1: "?", math.MinInt: "?", math.MaxInt: "?"} {
		if conv.Name(verdict) != name {
			t.Error(verdict, conv.Name(verdict))
		}
	}
}

// P26.5: a state, what was told, and what was handed in, share nothing.
func TestMemory(t *testing.T) {
	blot := func(p conv.Point) {
		p.Hist.Counts[0], p.Hist.Attrs[0].Key = 99, "z"
		_ = append(p.Hist.Counts, 5)
	}
	point := func(start, time uint64) conv.Point {
		p := histogram(start, time, 1, 2)
		p.Hist.Attrs = []api.KeyValue{{Key: "k"}}
		return p
	}
	tb := table(t, 1, 1, 1)
	first := point(1, 2)
	told, _ := tb.Up("a", first)
	blot(told)
	blot(first)
	state, _ := tb.State("a")
	if !same(state, point(1, 2)) {
		t.Error("shared memory:", state)
	}
	blot(state)
	told, verdict := tb.Up("a", point(2, 3))
	sum := point(1, 3)
	sum.Hist.Counts = []uint64{2, 4}
	if verdict != conv.Told || !same(told, sum) {
		t.Error("shared memory:", told)
	}
	blot(told)
	if state, _ := tb.State("a"); !same(state, sum) {
		t.Error("shared memory:", state)
	}
	tb = table(t, 1, 1, 1)
	for i, want := range []conv.Point{point(1, 2), point(2, 3), point(1, 4)} {
		p := point(1, uint64(i+2))
		if i == 1 {
			want.Hist.Counts = []uint64{0, 0}
		}
		if i == 2 {
			p.Hist.Start, want.Hist.Start = 3, 3
		}
		told, _ := tb.Down("a", false, p)
		if !same(told, want) {
			t.Errorf("point %d: %+v", i, told)
		}
		blot(told)
		blot(p)
		if state, _ := tb.State("a"); state.Hist.Counts[0] != 1 || state.Hist.Attrs[0].Key != "k" {
			t.Error("shared memory:", state)
		}
	}
	keys := tb.Keys()
	keys[0] = "z"
	if tb.Keys()[0] != "a" {
		t.Error("shared memory")
	}
}
