package utf_test

import (
	"math"
	"testing"
	"unicode/utf8"

	"hygrometer/api"
	"hygrometer/blame"
	"hygrometer/utf"
)

// bad is Bad by the library.
func bad(s string) int {
	for at := 0; at < len(s); {
		r, size := utf8.DecodeRuneInString(s[at:])
		if r == utf8.RuneError && size == 1 {
			return at
		}
		at += size
	}
	return -1
}

func compare(t *testing.T, s string) {
	t.Helper()
	want := bad(s)
	if utf.Bad(s) != want || utf.Valid(s) != (want < 0) {
		t.Errorf("% X: Bad %d, not %d; Valid %t", s, utf.Bad(s), want, utf.Valid(s))
	}
	err := utf.Check(s)
	if at, has := blame.Place(err); want < 0 && err != nil || want >= 0 && (blame.Code(err) != api.ErrUTF8 || !has || at != want) {
		t.Errorf("% X: Check %v", s, err)
	}
}

// P3.1: all texts of two bytes, and those of three and four bytes at the bounds.
func TestForms(t *testing.T) {
	edges := []byte{0x00, 0x7F, 0x80, 0x8F, 0x90, 0x9F, 0xA0, 0xBF, 0xC0, 0xC1, 0xC2, 0xDF, 0xE0, 0xE1, 0xEC, 0xED, 0xEE, 0xEF, 0xF0, 0xF1, 0xF3, 0xF4, 0xF5, 0xF8, 0xFF}
	compare(t, "")
	for a := range 256 {
		compare(t, string([]byte{byte(a)}))
		for b := range 256 {
			compare(t, string([]byte{byte(a), byte(b)}))
			for _, c := range edges {
				compare(t, string([]byte{byte(a), byte(b), c}))
			}
		}
		for _, b := range edges {
			for _, c := range edges {
				for _, d := range edges {
					compare(t, string([]byte{byte(a), b, c, d}))
				}
			}
		}
	}
	compare(t, "a\xC0")
	compare(t, "aé€\U0010FFFF\uFFFDz")
	compare(t, "aé€\xF4\x90\x80\x80")
}

// P3.1, P3.2
func TestClip(t *testing.T) {
	const s = "aé€\U0001F600"
	for n, want := range []string{"", "a", "a", "aé", "aé", "aé", "aé€", "aé€", "aé€", "aé€", s, s} {
		if got := utf.Clip(s, n); got != want {
			t.Errorf("Clip of %d: %q", n, got)
		}
	}
	for _, n := range []int{-1, math.MinInt} {
		if utf.Clip(s, n) != "" {
			t.Error("Clip of", n)
		}
	}
	for _, n := range []int{3, 4, 5, math.MaxInt} {
		if got := utf.Clip("aé\xC3z", n); got != "aé" {
			t.Errorf("Clip of a bad one to %d: %q", n, got)
		}
	}
	if utf.Clip("\xFF", 1) != "" || utf.Clip("", 5) != "" {
		t.Error("Clip of nothing")
	}
}
