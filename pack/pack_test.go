package pack_test

import (
	"math/rand"
	"slices"
	"strconv"
	"strings"
	"testing"

	"hygrometer/api"
	"hygrometer/attr"
	"hygrometer/batch"
	"hygrometer/blame"
	"hygrometer/dict"
	"hygrometer/dod"
	"hygrometer/pack"
	"hygrometer/runs"
	"hygrometer/varint"
	"hygrometer/xor"
)

func attrs(n uint64) []api.KeyValue {
	return []api.KeyValue{{Key: "k", Has: true, Value: api.Value{Kind: 3, N: n}}}
}

func opt(n uint64) api.Opt { return api.Opt{Has: true, N: n} }

func metrics(l ...api.Metric) api.Batch {
	return api.Batch{Resources: []api.ResourceMetrics{{Scopes: []api.ScopeMetrics{{Metrics: l}}}}}
}

// full is a batch that has something everywhere.
func full() api.Batch {
	exemplars := []api.Exemplar{{}, {Attrs: attrs(9), Time: 30, Kind: 1, N: 31, Span: "s", Trace: "t", Unknown: "\x40\x01"}}
	b := metrics(
		api.Metric{Name: "none"},
		api.Metric{Name: "a", Desc: "d", Unit: "u", Kind: 1, Numbers: []api.Number{{}, {Attrs: attrs(1), Start: 1, Time: 2, Kind: 2, N: 3, Exemplars: exemplars, Flags: 4, Unknown: "\x08\x02"}}, Meta: attrs(2), Inner: "\x10\x02", Unknown: "\x20\x02"},
		api.Metric{Kind: 2, Temporality: -1, Monotonic: true, Numbers: []api.Number{{Kind: 1}}},
		api.Metric{Kind: 3, Temporality: 2, Hists: []api.Hist{{}, {Attrs: attrs(1), Start: 5, Time: 6, Count: 7, Sum: opt(8), Min: opt(0), Max: opt(9), Counts: []uint64{10, 11}, Bounds: []uint64{12}, Exemplars: exemplars, Flags: 13, Unknown: "\x08\x03"}}},
		api.Metric{Kind: 4, Exps: []api.Exp{{}, {Attrs: attrs(1), Start: 14, Time: 15, Count: 16, Sum: opt(17), Min: opt(18), Max: opt(0), Scale: -3, Zero: 19, HasPos: true, Pos: api.Buckets{Offset: -20, Counts: []uint64{21}, Unknown: "\x18\x00"}, HasNeg: true, Exemplars: exemplars, Flags: 22, Threshold: 23, Unknown: "\x08\x04"}}},
		api.Metric{Kind: 5, Summaries: []api.Summary{{}, {Attrs: attrs(1), Start: 24, Time: 25, Count: 26, Sum: 27, Quantiles: []api.Quantile{{}, {Q: 28, V: 29, Unknown: "\x18\x01"}}, Flags: 30, Unknown: "\x08\x05"}}},
	)
	b.Resources = append(b.Resources, api.ResourceMetrics{
		Has: true, Resource: api.Resource{Attrs: attrs(3), Dropped: 40, Unknown: "\x18\x02"}, Schema: "rs", Unknown: "\x20\x03",
		Scopes: []api.ScopeMetrics{{}, {Has: true, Scope: api.Scope{Name: "n", Version: "v", Attrs: attrs(4), Dropped: 41, Unknown: "\x28\x01"}, Schema: "ss", Unknown: "\x20\x04"}},
	})
	b.Unknown = "\x10\x05"
	return b
}

// container is made by hand.
func container(texts, blobs []string, shape, starts, times, values, counts []uint64) string {
	var b strings.Builder
	part := func(s string, err error) {
		if err != nil {
			panic(err)
		}
		b.WriteString(varint.Put(uint64(len(s))) + s)
	}
	column := func(l []uint64, put func([]uint64) (string, error)) {
		s, err := put(l)
		part(varint.Put(uint64(len(l)))+s, err)
	}
	for _, l := range [][]string{texts, blobs} {
		d := dict.New()
		for _, s := range l {
			d.Add(s)
		}
		part(d.Put())
	}
	column(shape, runs.Put)
	column(starts, dod.Put)
	column(times, dod.Put)
	column(values, xor.Put)
	column(runs.Delta(counts), runs.Put)
	return "HYG1" + b.String()
}

func there(t *testing.T, b api.Batch) string {
	t.Helper()
	z, err := pack.Pack(b)
	if err != nil {
		t.Fatal(err)
	}
	got, err := pack.Unpack(z)
	if err != nil || !batch.Same(got, b) {
		t.Fatalf("%+v is back as %+v, %v", b, got, err)
	}
	return z
}

// P24.1: how a batch is walked.
func TestWalk(t *testing.T) {
	const empty = "HYG1\x01\x00\x02\x01\x00\x03\x02\x00\x01\x01\x00\x01\x00\x01\x00\x01\x00"
	if z := there(t, api.Batch{}); z != empty || len(z) != 21 {
		t.Errorf("of a zero one: % X", z)
	}
	texts := []string{"", "none", "a", "d", "u", "rs", "n", "v", "ss"}
	pk := func(n uint64) string { return attr.Pack(attrs(n)) }
	blobs := []string{"\x10\x05", "", pk(2), "\x10\x02", "\x20\x02", pk(1), "\x08\x02", pk(9), "s", "t", "\x40\x01", "\x08\x03", "\x08\x04", "\x18\x00", "\x08\x05", "\x18\x01", pk(3), "\x18\x02", "\x20\x03", pk(4), "\x28\x01", "\x20\x04"}
	exemplars := []uint64{2, 1, 0, 1, 1, 1, 7, 1, 8, 9, 10}
	shape := slices.Concat(
		[]uint64{0, 2 /* */, 0, 0, 1, 1 /* */, 0, 0, 1, 6},
		[]uint64{1, 0, 0, 0, 0, 0, 1, 1, 1, 0},
		[]uint64{2, 3, 4, 1, 0, 0, 2, 3, 4, 2 /* */, 1, 0, 1, 0, 0 /* */, 5, 4, 6, 2}, exemplars,
		[]uint64{0, 0, 0, 2, 1, 1, 1, 1, 1, 1 /* */, 1, 0, 1, 1, 0},
		[]uint64{0, 0, 0, 3, 4, 0, 1, 1, 1, 2 /* */, 1, 0, 1, 0, 0, 0, 0, 0, 0 /* */, 5, 13, 11, 1, 1, 1, 2, 1}, exemplars,
		[]uint64{0, 0, 0, 4, 0, 0, 1, 1, 1, 2 /* */, 1, 0, 1, 0, 0, 0, 0, 0, 0, 0 /* */, 5, 22, 12, 1, 1, 1, 5, 1, 39, 1, 13, 1, 0, 0, 1}, exemplars,
		[]uint64{0, 0, 0, 5, 0, 0, 1, 1, 1, 2 /* */, 1, 0, 1, 0 /* */, 5, 30, 14, 2, 1, 15},
		[]uint64{1, 16, 40, 17, 5, 18, 2 /* */, 0, 0, 1, 0 /* */, 1, 6, 7, 19, 41, 20, 8, 21, 0},
	)
	starts := []uint64{0, 1, 0, 0, 5, 0, 14, 0, 24}
	times := []uint64{0, 2, 0, 30, 0, 0, 6, 0, 30, 0, 15, 0, 30, 0, 25}
	values := []uint64{3, 31, 0, 8, 0, 9, 12, 31, 0, 17, 18, 0, 23, 31, 0, 27, 0, 0, 28, 29}
	counts := []uint64{0, 7, 10, 11, 0, 0, 16, 19, 21, 0, 26}
	want := container(texts, blobs, shape, starts, times, values, counts)
	if z := there(t, full()); z != want {
		t.Errorf("% X, not % X", z, want)
	}
}

// P24.1
func TestPackWrong(t *testing.T) {
	b := full()
	b.Resources[0].Schema = "\xFF"
	if z, err := pack.Pack(b); z != "" || blame.Code(err) != api.ErrInvalid {
		t.Error(err)
	}
	b.Unknown = strings.Repeat("\x10\x01", api.MaxBytes)
	if z, err := pack.Pack(b); z != "" || blame.Code(err) != api.ErrInvalid {
		t.Error("what may not be is told first:", err)
	}
	b = api.Batch{Unknown: strings.Repeat("\x10\x01", api.MaxBytes/2)}
	if batch.Size(b) != api.MaxBytes {
		t.Fatal(batch.Size(b))
	}
	if z, err := pack.Pack(b); z != "" || blame.Code(err) != api.ErrTooLarge {
		t.Error("a container of too many bytes:", err)
	}
	b.Unknown += "\x10\x01"
	if z, err := pack.Pack(b); z != "" || blame.Code(err) != api.ErrTooLarge {
		t.Error("a batch of too many bytes:", err)
	}
}

// P24.1: the most bytes that may be.
func TestMostBytes(t *testing.T) {
	// Short ones take more bytes in columns than in a message.
	long := func(n int) api.Batch {
		b := api.Batch{Resources: make([]api.ResourceMetrics, 4001)}
		for i := 2; i < 4001; i += 2 {
			b.Resources[i].Schema = "a"
		}
		b.Resources[0].Schema = strings.Repeat("a", n)
		return b
	}
	const n = api.MaxBytes - 20000
	most := n + api.MaxBytes - len(there(t, long(n)))
	if z := there(t, long(most)); len(z) != api.MaxBytes || batch.Size(long(most)) >= api.MaxBytes {
		t.Error(len(z))
	}
	if z, err := pack.Pack(long(most + 1)); z != "" || blame.Code(err) != api.ErrTooLarge {
		t.Error(err)
	}
	schema := strings.Repeat("a", 1<<15)
	var b api.Batch
	for range 8 {
		b.Resources = append(b.Resources, api.ResourceMetrics{Schema: schema})
	}
	b.Resources[0].Schema = schema[:1<<15-(batch.Size(b)-api.MaxBytes)]
	if batch.Size(b) != api.MaxBytes {
		t.Fatal(batch.Size(b))
	}
	there(t, b)
	b.Resources[0].Schema += "a"
	if z, err := pack.Pack(b); z != "" || blame.Code(err) != api.ErrTooLarge {
		t.Error(err)
	}
}

// P24.1: at most so many numbers and texts.
func TestMost(t *testing.T) {
	// A zero metric puts ten numbers behind Shape, and ten stand ahead of all.
	hist := func(counts int, l ...api.Metric) api.Batch {
		return metrics(append(l, api.Metric{Kind: 3, Hists: []api.Hist{{Counts: make([]uint64, counts)}}})...)
	}
	there(t, hist(api.MaxItems-1))
	for name, b := range map[string]api.Batch{
		"Counts": hist(api.MaxItems),
		"Shape":  metrics(make([]api.Metric, 2000)...),
		"Values": metrics(api.Metric{Kind: 3, Hists: []api.Hist{{Bounds: make([]uint64, api.MaxItems+1)}}}),
	} {
		if z, err := pack.Pack(b); z != "" || blame.Code(err) != api.ErrTooLarge || batch.Size(b) > api.MaxBytes {
			t.Error(name, err, batch.Size(b))
		}
	}
	there(t, metrics(make([]api.Metric, 1999)...))
	there(t, metrics(api.Metric{Kind: 3, Hists: []api.Hist{{Bounds: make([]uint64, api.MaxItems)}}}))
	_, err := pack.Pack(metrics(api.Metric{Kind: 1, Numbers: []api.Number{{Exemplars: make([]api.Exemplar, 3330)}}}))
	if err != nil {
		t.Error(err)
	}
	_, err = pack.Pack(metrics(api.Metric{Kind: 1, Numbers: []api.Number{{Exemplars: make([]api.Exemplar, 5000)}}}))
	if blame.Code(err) != api.ErrTooLarge {
		t.Error(err)
	}
}

// P24.1
func TestUnpackWrong(t *testing.T) {
	z := there(t, full())
	none := func(what, z string) {
		t.Helper()
		if b, err := pack.Unpack(z); err == nil || blame.Code(err) == api.ErrOther || !batch.Same(b, api.Batch{}) {
			t.Errorf("%s is taken: %v", what, err)
		}
	}
	for i := range z {
		none("a shorter one", z[:i])
	}
	none("a longer one", z+"\x00")
	none("another mark", "HYG2"+z[4:])
	if _, err := pack.Unpack(strings.Repeat("H", api.MaxBytes+1)); blame.Code(err) != api.ErrTooLarge {
		t.Error(err)
	}
	one := []uint64{0}
	for i, z := range []string{
		container(nil, []string{"", "\x10\x01"}, []uint64{0, 0}, nil, nil, nil, nil), // a blob that is not told
		container([]string{""}, []string{""}, []uint64{0, 0}, nil, nil, nil, nil),    // a text that is not told
		container(nil, []string{""}, []uint64{0, 0, 0}, nil, nil, nil, nil),
		container(nil, []string{""}, []uint64{0}, nil, nil, nil, nil),
		container(nil, []string{""}, []uint64{1, 0}, nil, nil, nil, nil),
		container(nil, nil, []uint64{1 << 63, 0}, nil, nil, nil, nil),
		container(nil, []string{""}, []uint64{0, 1 << 63}, nil, nil, nil, nil),
		container(nil, []string{"\x0A\x00"}, []uint64{0, 0}, nil, nil, nil, nil), // records that the table takes
		container(nil, []string{""}, []uint64{0, 0}, one, nil, nil, nil), container(nil, []string{""}, []uint64{0, 0}, nil, one, nil, nil), container(nil, []string{""}, []uint64{0, 0}, nil, nil, one, nil), container(nil, []string{""}, []uint64{0, 0}, nil, nil, nil, one),
		container([]string{""}, []string{""}, []uint64{0, 1, 2, 0, 0, 0, 0, 0, 0}, nil, nil, nil, nil),                                        // a bool of 2
		container([]string{""}, []string{""}, []uint64{0, 1, 1, 0, 1 << 32, 0, 0, 0, 0}, nil, nil, nil, nil),                                  // Dropped of more than 32 bits
		container([]string{""}, []string{"", "a"}, []uint64{0, 1, 1, 1, 0, 0, 0, 0, 0}, nil, nil, nil, nil),                                   // attributes that are none
		container([]string{"b", ""}, []string{""}, []uint64{0, 1, 0, 1, 0, 0}, nil, nil, nil, nil),                                            // texts in another order
		container([]string{"\xFF"}, []string{""}, []uint64{0, 1, 0, 0, 0, 0}, nil, nil, nil, nil),                                             // a text that is none
		container([]string{""}, []string{""}, []uint64{0, 1, 0, 0, 0, 1, 0, 0, 0, 1, 0, 0, 0, 7, 0, 0, 0, 0, 0, 0}, nil, nil, nil, nil),       // a Kind that is none
		container([]string{""}, []string{""}, []uint64{0, 1, 0, 0, 0, 1, 0, 0, 0, 1, 0, 0, 0, 0, 0, 0, 0, 0, 0, 1}, nil, nil, nil, nil),       // a point of no Kind
		container([]string{""}, []string{""}, []uint64{0, 1, 0, 0, 0, 1, 0, 0, 0, 1, 0, 0, 0, 2, 1 << 32, 0, 0, 0, 0, 0}, nil, nil, nil, nil), // a Temporality of more than 32 bits
	} {
		none("case "+strconv.Itoa(i), z)
	}
}

// P24.1: a text that is told so often that the batch would be too large.
func TestBomb(t *testing.T) {
	long := "\x12\xD0\x86\x03" + strings.Repeat("a", 50000)
	for _, times := range []int{1, 5, 6, 4000} {
		shape := []uint64{0, uint64(times)}
		for range times {
			shape = append(shape, 0, 0, 1, 0)
		}
		unknown := "\x22" + long[1:]
		z := container([]string{""}, []string{"", unknown}, shape, nil, nil, nil, nil)
		b, err := pack.Unpack(z)
		if (err == nil) != (times <= 5) || err == nil && len(b.Resources) != times {
			t.Error(times, err)
		}
	}
}

// P24.3: what is taken has no other container.
func TestNear(t *testing.T) {
	z := there(t, full())
	near := func(b []byte) {
		x, err := pack.Unpack(string(b))
		if err != nil {
			if blame.Code(err) == api.ErrOther {
				t.Fatal(err)
			}
			return
		}
		if again, err := pack.Pack(x); err != nil || again != string(b) {
			t.Fatalf("% X is also % X, %v", b, again, err)
		}
	}
	for i := range z {
		for bit := range 8 {
			b := []byte(z)
			b[i] ^= 1 << bit
			near(b)
		}
	}
	rnd := rand.New(rand.NewSource(24))
	for range 20000 {
		b := []byte(z)
		for range 1 + rnd.Intn(3) {
			b[4+rnd.Intn(len(b)-4)] = byte(rnd.Intn(256))
		}
		near(b)
	}
}

// P24.3: with one byte turned, the container of a zero Batch is another batch's, or none's.
func TestTurned(t *testing.T) {
	z := there(t, api.Batch{})
	for i := range z {
		for n := range 256 {
			b := []byte(z)
			b[i] = byte(n)
			if x, err := pack.Unpack(string(b)); err == nil && (string(b) == z) != batch.Same(x, api.Batch{}) {
				t.Errorf("% X: %+v", b, x)
			}
		}
	}
}

// P24.2
func TestNew(t *testing.T) {
	b := full()
	z := there(t, b)
	x, _ := pack.Unpack(z)
	y, _ := pack.Unpack(z)
	n := &x.Resources[0].Scopes[0].Metrics[1].Numbers[1]
	n.Attrs[0].Key, n.Exemplars[1].Attrs[0].Key = "z", "z"
	x.Resources[0].Scopes[0].Metrics[3].Hists[1].Counts[0] = 99
	h := x.Resources[0].Scopes[0].Metrics[3].Hists[1]
	_ = append(h.Counts, 5)
	if h.Bounds[0] != 12 || !batch.Same(y, full()) || !batch.Same(b, full()) || h.Attrs[0].Key != "k" {
		t.Error("shared memory")
	}
}
