// Package probe asks the calls of a message what DOC.md ("Messages") promises of
// every one. It is used by tests alone; what it answers is a complaint, or nothing.
package probe

import (
	"strconv"

	"hygrometer/api"
	"hygrometer/blame"
)

// Calls are the five calls of a message.
type Calls[T any] struct {
	May       func(x T, depth int) bool
	Size      func(x T) int
	Marshal   func(x T, depth int) (string, error)
	Unmarshal func(s string, depth int) (T, error)
	Same      func(a, b T) bool
}

// Written: x may be at a depth and not below, and is s there, and back.
func (c Calls[T]) Written(x T, depth int, s string) string {
	for d := depth; d < depth+3; d++ {
		got, err := c.Marshal(x, d)
		if err != nil || got != s || !c.May(x, d) || c.Size(x) != len(s) {
			return "at depth " + strconv.Itoa(d) + " it is " + strconv.Quote(got) + " of size " + strconv.Itoa(c.Size(x))
		}
		if text := c.Read(s, d, x); text != "" {
			return text
		}
	}
	for _, d := range []int{depth - 1, -1, -1 << 63} {
		if text := c.Invalid(x, d); text != "" {
			return text
		}
		if text := c.Wrong(s, d, api.ErrDepth); text != "" {
			return text
		}
	}
	return ""
}

// Invalid: x may not be at a depth.
func (c Calls[T]) Invalid(x T, depth int) string {
	s, err := c.Marshal(x, depth)
	if c.May(x, depth) || s != "" || blame.Code(err) != api.ErrInvalid {
		return "at depth " + strconv.Itoa(depth) + " it may be, or is " + strconv.Quote(s)
	}
	return ""
}

// Read: s is read as x, and x is written and read again.
func (c Calls[T]) Read(s string, depth int, x T) string {
	got, err := c.Unmarshal(s, depth)
	if err != nil {
		return strconv.Quote(s) + " is not read: " + err.Error()
	}
	if !c.Same(got, x) || !c.Same(x, got) {
		return strconv.Quote(s) + " is read as another one"
	}
	return c.Any(s, depth)
}

// Wrong: s is not read, for the reason of a code.
func (c Calls[T]) Wrong(s string, depth int, code api.Code) string {
	var none T
	got, err := c.Unmarshal(s, depth)
	if at, has := blame.Place(err); blame.Code(err) != code || !has || at < 0 || at > len(s) || !c.Same(got, none) {
		text := "no error"
		if err != nil {
			text = err.Error()
		}
		return strconv.Quote(s) + " at depth " + strconv.Itoa(depth) + ": " + text
	}
	return ""
}

// Any: of any bytes, either they are wrong in one of the ways that are named, or
// what they say is written and read again, the same.
func (c Calls[T]) Any(s string, depth int) string {
	x, err := c.Unmarshal(s, depth)
	if err != nil {
		switch code := blame.Code(err); code {
		case api.ErrShort, api.ErrVarint, api.ErrForm, api.ErrUTF8, api.ErrDepth:
			return c.Wrong(s, depth, code)
		}
		return strconv.Quote(s) + ": " + err.Error()
	}
	t, err := c.Marshal(x, depth)
	if err != nil || !c.May(x, depth) || c.Size(x) != len(t) {
		return strconv.Quote(s) + " is read, and may not be"
	}
	y, err := c.Unmarshal(t, depth)
	if err != nil || !c.Same(x, y) {
		return strconv.Quote(s) + " written as " + strconv.Quote(t) + " is read as another one"
	}
	if u, err := c.Marshal(y, depth); err != nil || u != t {
		return strconv.Quote(s) + " is written as " + strconv.Quote(t) + " and " + strconv.Quote(u)
	}
	return ""
}

// Near asks Any of s, and of s with a byte changed, added or taken away.
func (c Calls[T]) Near(s string, depth int) string {
	text := c.Any(s, depth)
	for i := 0; i <= len(s) && text == ""; i++ {
		text = c.Any(s[:i], depth)
		for b := 0; b < 256 && text == "" && i < len(s); b++ {
			text = c.Any(s[:i]+string([]byte{byte(b)})+s[i+1:], depth)
		}
		for _, b := range []string{"\x00", "\x08\x01", "\x0B\x0C", "\x80"} {
			if text == "" {
				text = c.Any(s[:i]+b+s[i:], depth)
			}
		}
		if i < len(s) && text == "" {
			text = c.Any(s[:i]+s[i+1:], depth)
		}
	}
	return text
}

// Unlike: of a list of which no two are alike, Same says so.
func (c Calls[T]) Unlike(l []T) string {
	for i, a := range l {
		for j, b := range l {
			if c.Same(a, b) != (i == j) {
				return strconv.Itoa(i) + " and " + strconv.Itoa(j) + " are told apart wrongly"
			}
		}
	}
	return ""
}
