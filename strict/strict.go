// Package strict reads what may be written in one way only: numbers in no more
// bytes than needed, and texts behind their lengths. A fault of form does not end
// the reading, so that one that is told ahead of it is found, if there is one.
package strict

import (
	"hygrometer/api"
	"hygrometer/blame"
	"hygrometer/varint"
)

// Reader reads a text from the front.
type Reader struct {
	s    string
	at   int
	form error
}

// New reads s.
func New(s string) *Reader { return &Reader{s: s} }

// Num reads a number.
func (r *Reader) Num() (uint64, error) {
	n, end, err := varint.Get(r.s, r.at)
	if err != nil {
		return 0, err
	}
	if end-r.at > varint.Size(n) {
		r.Fault()
	}
	r.at = end
	return n, nil
}

// Text reads a length, and a text of so many bytes.
func (r *Reader) Text() (string, error) {
	n, err := r.Num()
	if err != nil {
		return "", err
	}
	if n > uint64(len(r.s)-r.at) {
		return "", r.Wrong(api.ErrShort)
	}
	from := r.at
	r.at += int(n)
	return r.s[from:r.at], nil
}

// Left tells whether there is more.
func (r *Reader) Left() bool { return r.at < len(r.s) }

// Wrong is an error of a code, at the place where the reader is.
func (r *Reader) Wrong(code api.Code) error { return blame.At(r.at, code) }

// Fault notes a fault of form; the first one is kept.
func (r *Reader) Fault() {
	if r.form == nil {
		r.form = r.Wrong(api.ErrForm)
	}
}

// Form is the fault that was noted.
func (r *Reader) Form() error { return r.form }

// Long is the error of more behind it.
func (r *Reader) Long() error {
	if r.Left() {
		return r.Wrong(api.ErrLong)
	}
	return nil
}

// End is the error of more behind it, or else the fault that was noted.
func (r *Reader) End() error {
	if err := r.Long(); err != nil {
		return err
	}
	return r.form
}
