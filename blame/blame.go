// Package blame: errors that say where (chapter 1).
package blame

import (
	"errors"
	"strconv"

	"hygrometer/api"
)

// Where is an error at a place in bytes.
type Where struct {
	At  int
	Err error
}

// Field is an error in the field of a message.
type Field struct {
	Num int
	Err error
}

// Error tells the place and what is wrong there.
func (w *Where) Error() string { return text("at ", w.At, w.Err) }

// Unwrap: what is wrong there.
func (w *Where) Unwrap() error { return w.Err }

// Error tells the field's number and what is wrong in it.
func (f *Field) Error() string { return text("field ", f.Num, f.Err) }

// Unwrap: what is wrong in it.
func (f *Field) Unwrap() error { return f.Err }

func text(word string, n int, err error) string {
	s := word + strconv.Itoa(n)
	if err == nil {
		return s
	}
	return s + ": " + err.Error()
}

// At wraps err with a place; nil stays nil.
func At(at int, err error) error {
	if err == nil {
		return nil
	}
	return &Where{At: at, Err: err}
}

// In wraps err with a field's number; nil stays nil.
func In(num int, err error) error {
	if err == nil {
		return nil
	}
	return &Field{Num: num, Err: err}
}

// Code is the code found in err: OK of nil, ErrOther where there is none.
func Code(err error) api.Code {
	if err == nil {
		return api.OK
	}
	var code api.Code
	if errors.As(err, &code) {
		return code
	}
	return api.ErrOther
}

// Place is the outermost place in err.
func Place(err error) (int, bool) {
	var w *Where
	if errors.As(err, &w) {
		return w.At, true
	}
	return 0, false
}

// Nums are the numbers of all fields in err, the outermost first.
func Nums(err error) []int {
	var nums []int
	var f *Field
	for errors.As(err, &f) {
		nums = append(nums, f.Num)
		err = f.Err
	}
	return nums
}
