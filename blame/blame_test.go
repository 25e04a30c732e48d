package blame_test

import (
	"errors"
	"slices"
	"testing"

	"hygrometer/api"
	"hygrometer/blame"
)

// foreign wraps an error in a way that blame does not know.
type foreign struct{ err error }

func (f foreign) Error() string { return "foreign" }
func (f foreign) Unwrap() error { return f.err }

// P1.1
func TestMade(t *testing.T) {
	if blame.At(1, nil) != nil || blame.In(1, nil) != nil {
		t.Error("nil became an error")
	}
	w, ok := blame.At(7, api.ErrShort).(*blame.Where)
	if !ok || w.At != 7 || w.Err != api.ErrShort || w.Unwrap() != api.ErrShort {
		t.Error("At makes no Where of its two", w)
	}
	f, ok := blame.In(8, api.ErrLong).(*blame.Field)
	if !ok || f.Num != 8 || f.Err != api.ErrLong || f.Unwrap() != api.ErrLong {
		t.Error("In makes no Field of its two", f)
	}
}

// P1.1
func TestTexts(t *testing.T) {
	for want, err := range map[string]error{
		"at 3: field 2: code 1":          blame.At(3, blame.In(2, api.ErrShort)),
		"at -9223372036854775808: other": blame.At(-1<<63, errors.New("other")),
		"field 9223372036854775807: ":    blame.In(1<<63-1, errors.New("")),
		"at 0":                           &blame.Where{},
		"field 0":                        &blame.Field{},
		"field -1: at 0: foreign":        blame.In(-1, blame.At(0, foreign{api.ErrForm})),
	} {
		if got := err.Error(); got != want {
			t.Errorf("%q, not %q", got, want)
		}
	}
}

// P1.2, P1.4
func TestAsked(t *testing.T) {
	joined := errors.Join(errors.New("x"), blame.In(5, blame.At(6, api.ErrUTF8)))
	for i, c := range []struct {
		err  error
		code api.Code
		at   int
		has  bool
		nums []int
	}{
		{nil, api.OK, 0, false, nil},
		{api.OK, api.OK, 0, false, nil},
		{api.ErrState, api.ErrState, 0, false, nil},
		{errors.New("x"), api.ErrOther, 0, false, nil},
		{blame.At(0, errors.New("x")), api.ErrOther, 0, true, nil},
		{blame.At(-4, blame.At(9, api.ErrNone)), api.ErrNone, -4, true, nil},
		{foreign{blame.In(1, foreign{blame.In(2, blame.At(3, foreign{api.ErrFull}))})}, api.ErrFull, 3, true, []int{1, 2}},
		{blame.In(4, joined), api.ErrUTF8, 6, true, []int{4, 5}},
		{&blame.Field{Num: 3}, api.ErrOther, 0, false, []int{3}},
	} {
		at, has := blame.Place(c.err)
		if blame.Code(c.err) != c.code || at != c.at || has != c.has || !slices.Equal(blame.Nums(c.err), c.nums) {
			t.Errorf("case %d: %v, %d, %t, %v", i, blame.Code(c.err), at, has, blame.Nums(c.err))
		}
	}
}

// P1.3
func TestFoundWithin(t *testing.T) {
	other := errors.New("other")
	err := blame.At(1, blame.In(2, errors.Join(other, api.ErrDepth)))
	if !errors.Is(err, other) || !errors.Is(err, api.ErrDepth) {
		t.Error("what is within is not found")
	}
	for c := api.OK; c <= api.ErrOther; c++ {
		if errors.Is(err, c) != (c == api.ErrDepth) {
			t.Error("found or not found:", c)
		}
	}
}

// P0.4: the numbers are a list of the caller's own.
func TestNumsAreNew(t *testing.T) {
	err := blame.In(1, blame.In(2, api.ErrForm))
	blame.Nums(err)[0] = 9
	if !slices.Equal(blame.Nums(err), []int{1, 2}) {
		t.Error("the numbers changed")
	}
}
