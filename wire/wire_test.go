package wire_test

import (
	"math"
	"slices"
	"strings"
	"testing"

	"hygrometer/api"
	"hygrometer/blame"
	"hygrometer/wire"
)

// P4.1
func TestNext(t *testing.T) {
	for i, c := range []struct {
		s     string
		depth int
		want  wire.Record
	}{
		{"\x08\xAC\x02", 0, wire.Record{Num: 1, Type: wire.Num, N: 300}},
		{"\x08\x80\x00", -1, wire.Record{Num: 1, Type: wire.Num}},
		{"\x88\x00\x01", 0, wire.Record{Num: 1, Type: wire.Num, N: 1}},
		{"\xF8\xFF\xFF\xFF\x0F\x07", 0, wire.Record{Num: 1<<29 - 1, Type: wire.Num, N: 7}},
		{"\x11\x01\x02\x03\x04\x05\x06\x07\x88", 0, wire.Record{Num: 2, Type: wire.F64, N: 0x8807060504030201}},
		{"\x1D\x01\x02\x03\x84", 0, wire.Record{Num: 3, Type: wire.F32, N: 0x84030201}},
		{"\x12\x00", 0, wire.Record{Num: 2, Type: wire.Len}},
		{"\x12\x82\x00ab", math.MinInt, wire.Record{Num: 2, Type: wire.Len, S: "ab"}},
		{"\x0B\x0C", 1, wire.Record{Num: 1, Type: wire.Begin}},
		{"\x0B\x08\x05\x12\x01\x0C\x15abcd\x0C", 1, wire.Record{Num: 1, Type: wire.Begin}},
		{"\x0B\x13\x14\x13\x14\x0C", 2, wire.Record{Num: 1, Type: wire.Begin}},
	} {
		c.want.Raw = c.s
		r, end, err := wire.Next("zz"+c.s+"\x00", 2, c.depth)
		if r != c.want || end != 2+len(c.s) || err != nil {
			t.Errorf("case %d: %+v, %d, %v", i, r, end, err)
		}
	}
}

// P4.1
func TestNextWrong(t *testing.T) {
	for i, c := range []struct {
		s     string
		at    int
		depth int
		code  api.Code
	}{
		{"", 0, 0, api.ErrShort}, {"\x08\x01", 2, 0, api.ErrShort}, {"\x08", 0, 0, api.ErrShort}, {"\x88", 0, 0, api.ErrShort}, {"\x08\x80", 0, 0, api.ErrShort},
		{"\x09\x01\x02\x03\x04\x05\x06\x07", 0, 0, api.ErrShort}, {"\x0D\x01\x02\x03", 0, 0, api.ErrShort}, {"\x0A", 0, 0, api.ErrShort}, {"\x0A\x01", 0, 0, api.ErrShort}, {"\x0A\x03ab", 0, 0, api.ErrShort},
		{"\x0A\xFF\xFF\xFF\xFF\xFF\xFF\xFF\xFF\xFF\x01", 0, 0, api.ErrShort}, {"\x0A\xFF\xFF\xFF\xFF\xFF\xFF\xFF\xFF\x7F", 0, 0, api.ErrShort},
		{"\x0B", 0, 1, api.ErrShort}, {"\x0B\x08", 0, 1, api.ErrShort}, {"\x0B\x13\x14", 0, 2, api.ErrShort},
		{"\x08\x01", 3, 0, api.ErrRange}, {"\x08\x01", -1, 0, api.ErrRange}, {"\x08\x01", math.MaxInt, 0, api.ErrRange}, {"\x08\x01", math.MinInt, 0, api.ErrRange},
		{"\x08\x80\x80\x80\x80\x80\x80\x80\x80\x80\x02", 0, 0, api.ErrVarint}, {"\xFF\xFF\xFF\xFF\xFF\xFF\xFF\xFF\xFF\x02", 0, 0, api.ErrVarint}, {"\x0A\xFF\xFF\xFF\xFF\xFF\xFF\xFF\xFF\xFF\x7F", 0, 0, api.ErrVarint},
		{"\x00\x01", 0, 0, api.ErrForm}, {"\x0E", 0, 0, api.ErrForm}, {"\x0F", 0, 0, api.ErrForm}, {"\x0C", 0, 9, api.ErrForm}, {"\x80\x80\x80\x80\x10\x01", 0, 0, api.ErrForm}, {"\x88\x80\x80\x80\x80\x80\x80\x80\x80\x01\x01", 0, 0, api.ErrForm},
		{"\x0B\x14", 0, 9, api.ErrForm}, {"\x0B\x13\x0C\x14", 0, 9, api.ErrForm}, {"\x0B\x03\x0C", 0, 9, api.ErrForm},
		{"\x0B\x0C", 0, 0, api.ErrDepth}, {"\x0B\x0C", 0, -1, api.ErrDepth}, {"\x0B\x0C", 0, math.MinInt, api.ErrDepth}, {"\x0B\x13\x14\x0C", 0, 1, api.ErrDepth},
	} {
		r, end, err := wire.Next(c.s, c.at, c.depth)
		at, has := blame.Place(err)
		if r != (wire.Record{}) || end != 0 || blame.Code(err) != c.code || !has || at < c.at || c.code != api.ErrRange && at > len(c.s) {
			t.Errorf("case %d: %+v, %d, %v", i, r, end, err)
		}
	}
}

// P4.1, P4.4
func TestAll(t *testing.T) {
	s := "\x08\x80\x00\x12\x02ab\x0B\x13\x14\x0C\x1D\x01\x00\x00\x00\x21\x01\x00\x00\x00\x00\x00\x00\x00"
	l, err := wire.All(s, 2)
	if err != nil || len(l) != 5 {
		t.Fatal(l, err)
	}
	whole := ""
	for _, r := range l {
		again, end, err := wire.Next(r.Raw, 0, 2)
		if again != r || end != len(r.Raw) || err != nil {
			t.Errorf("%+v: %+v, %d, %v", r, again, end, err)
		}
		whole += r.Raw
	}
	if whole != s {
		t.Errorf("% X", whole)
	}
	if l, err := wire.All("", -5); len(l) != 0 || err != nil {
		t.Error("of nothing:", l, err)
	}
	l, err = wire.All(s+"\x07\x12", 2)
	if at, _ := blame.Place(err); l != nil || blame.Code(err) != api.ErrForm || at != len(s) {
		t.Error("the first error:", l, err)
	}
	if _, err := wire.All(s, 1); blame.Code(err) != api.ErrDepth {
		t.Error("too deep:", err)
	}
}

// P4.1: deep groups take neither long nor much.
func TestDeepGroups(t *testing.T) {
	s := strings.Repeat("\x0B", 1<<16) + strings.Repeat("\x0C", 1<<16)
	if r, end, err := wire.Next(s, 0, 1<<16); r.Raw != s || end != len(s) || err != nil {
		t.Error(end, err)
	}
	if _, _, err := wire.Next(s, 0, 1<<16-1); blame.Code(err) != api.ErrDepth {
		t.Error(err)
	}
	if _, err := wire.All(s[:len(s)-1], math.MaxInt); blame.Code(err) != api.ErrShort {
		t.Error(err)
	}
}

// P4.2
func TestWritten(t *testing.T) {
	if [...]int{wire.Num, wire.F64, wire.Len, wire.Begin, wire.End, wire.F32} != [...]int{0, 1, 2, 3, 4, 5} {
		t.Error("the constants")
	}
	for got, want := range map[string]string{
		wire.Varint(1, 300):               "\x08\xAC\x02",
		wire.Varint(1<<29-1, 0):           "\xF8\xFF\xFF\xFF\x0F\x00",
		wire.Fixed(6, 1):                  "\x31\x01\x00\x00\x00\x00\x00\x00\x00",
		wire.Fixed(2, 0x8877665544332211): "\x11\x11\x22\x33\x44\x55\x66\x77\x88",
		wire.Bytes(1, ""):                 "\x0A\x00",
		wire.Bytes(16, "abc"):             "\x82\x01\x03abc",
	} {
		if got != want {
			t.Errorf("% X, not % X", got, want)
		}
	}
	for kind, want := range []string{"\x08", "\x09", "\x0A", "\x0B", "\x0C", "\x0D", "", ""} {
		if got := wire.Tag(1, kind); got != want {
			t.Errorf("Tag of type %d: % X", kind, got)
		}
	}
	for _, num := range []int{0, -1, 1 << 29, math.MinInt, math.MaxInt, 1 << 61} {
		if wire.Tag(num, 0)+wire.Varint(num, 1)+wire.Fixed(num, 1)+wire.Bytes(num, "a") != "" {
			t.Error("something of number", num)
		}
	}
	if wire.Tag(1, -1)+wire.Tag(1, math.MinInt)+wire.Tag(1, math.MaxInt) != "" {
		t.Error("something of a type that is none")
	}
}

// P4.2
func TestPacked(t *testing.T) {
	l, err := wire.Fixeds("\x01\x00\x00\x00\x00\x00\x00\x00\x00\x00\x00\x00\x00\x00\x00\x80")
	if !slices.Equal(l, []uint64{1, 1 << 63}) || err != nil {
		t.Error(l, err)
	}
	l, err = wire.Varints("\x01\xAC\x02\x80\x00")
	if !slices.Equal(l, []uint64{1, 300, 0}) || err != nil {
		t.Error(l, err)
	}
	for n := 1; n < 24; n++ {
		l, err := wire.Fixeds(strings.Repeat("a", n))
		if n%8 != 0 && (l != nil || blame.Code(err) != api.ErrShort) {
			t.Error(n, l, err)
		}
	}
	for s, code := range map[string]api.Code{"\x01\x80": api.ErrShort, "\x01\xFF\xFF\xFF\xFF\xFF\xFF\xFF\xFF\xFF\x02": api.ErrVarint} {
		if l, err := wire.Varints(s); l != nil || blame.Code(err) != code {
			t.Error(l, err)
		}
	}
	if l, err := wire.Fixeds(""); len(l) != 0 || err != nil {
		t.Error(l, err)
	}
	if l, err := wire.Varints(""); len(l) != 0 || err != nil {
		t.Error(l, err)
	}
}

// P4.3
func TestNew(t *testing.T) {
	s := "\x08\x01\x08\x02"
	l, _ := wire.All(s, 0)
	l[0] = wire.Record{}
	_ = append(l, wire.Record{})
	again, _ := wire.All(s, 0)
	if again[0].Num != 1 || len(again) != 2 || s != "\x08\x01\x08\x02" {
		t.Error(again)
	}
}
