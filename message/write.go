// Package message has what the tables of messages share (DOC.md, "Messages"):
// how a message is written, and how its records are read and kept.
package message

import (
	"strings"

	"hygrometer/api"
	"hygrometer/blame"
	"hygrometer/utf"
	"hygrometer/varint"
	"hygrometer/wire"
)

// Deep is a depth that nothing within the limits reaches.
const Deep = 1 << 18

// Writer writes a message, and asks on the way whether it may be at a depth.
// Once it may not, nothing more is written.
type Writer struct {
	depth int
	parts []string
	size  int
	open  []hole
	err   error
}

// hole is where the tag and the length of an open message will stand: they are
// known when it is closed, so that deep ones are written in one go.
type hole struct{ num, part, size int }

// New writes a message at a depth.
func New(depth int) *Writer {
	w := &Writer{depth: depth}
	w.Ask(depth >= 0)
	return w
}

// Ask tells whether what is written may be.
func (w *Writer) Ask(may bool) {
	if !may {
		w.fail(api.ErrInvalid)
	}
}

// AskText asks whether the text of a field may be.
func (w *Writer) AskText(num int, s string) {
	if !utf.Valid(s) {
		w.fail(blame.In(num, api.ErrInvalid))
	}
}

// AskKind asks whether a number of a Kind may be: 1 and 2 have one, 0 has none.
func (w *Writer) AskKind(kind int, n uint64) {
	w.Ask(kind == 0 && n == 0 || kind == 1 || kind == 2)
}

func (w *Writer) fail(err error) {
	if w.err == nil {
		w.err = err
	}
}

// Put writes what is bytes already.
func (w *Writer) Put(s string) {
	if w.err == nil {
		w.parts = append(w.parts, s)
		w.size += len(s)
	}
}

// Text writes a text, if there is one.
func (w *Writer) Text(num int, s string) {
	w.AskText(num, s)
	w.Bytes(num, s)
}

// Bytes writes bytes, if there are some.
func (w *Writer) Bytes(num int, s string) {
	if s != "" {
		w.Put(wire.Bytes(num, s))
	}
}

// Num writes a num that is not 0.
func (w *Writer) Num(num int, n uint64) {
	if n != 0 {
		w.Put(wire.Fixed(num, n))
	}
}

// Var writes a var that is not 0.
func (w *Writer) Var(num int, n uint64) {
	if n != 0 {
		w.Put(wire.Varint(num, n))
	}
}

// Opt writes a num that may lack.
func (w *Writer) Opt(num int, x api.Opt) {
	if x.Has {
		w.Put(wire.Fixed(num, x.N))
	} else if x.N != 0 {
		w.fail(blame.In(num, api.ErrInvalid))
	}
}

// Nums writes packed nums, if there is one.
func (w *Writer) Nums(num int, l []uint64) {
	b := make([]byte, 0, 8*len(l))
	for _, n := range l {
		for i := range 8 {
			b = append(b, byte(n>>(8*i)))
		}
	}
	w.Bytes(num, string(b))
}

// Vars writes packed vars, if there is one.
func (w *Writer) Vars(num int, l []uint64) {
	var b strings.Builder
	for _, n := range l {
		b.WriteString(varint.Put(n))
	}
	w.Bytes(num, b.String())
}

// List writes each of a list with the call that marshals it.
func List[T any](w *Writer, num int, l []T, marshal func(x T, depth int) (string, error)) {
	for _, x := range l {
		Part(w, num, x, marshal)
	}
}

// Part writes one message with the call that marshals it.
func Part[T any](w *Writer, num int, x T, marshal func(x T, depth int) (string, error)) {
	if w.err != nil {
		return
	}
	s, err := marshal(x, w.depth-1)
	if err != nil {
		w.fail(blame.In(num, err))
		return
	}
	w.Put(wire.Bytes(num, s))
}

// Each writes each of a list as a message within, by what puts its fields.
func Each[T any](w *Writer, num int, l []T, put func(w *Writer, x T)) {
	for _, x := range l {
		if w.err != nil {
			return
		}
		w.Open(num)
		put(w, x)
		w.Close()
	}
}

// Open begins a message within.
func (w *Writer) Open(num int) {
	w.depth--
	w.Ask(w.depth >= 0)
	w.open = append(w.open, hole{num: num, part: len(w.parts), size: w.size})
	w.Put("")
}

// Close ends the message that was opened last.
func (w *Writer) Close() {
	last := len(w.open) - 1
	h := w.open[last]
	w.open = w.open[:last]
	w.depth++
	if w.err != nil {
		return
	}
	head := wire.Tag(h.num, wire.Len) + varint.Put(uint64(w.size-h.size))
	w.parts[h.part] = head
	w.size += len(head)
}

// Rest writes records that are unknown to the table.
func (w *Writer) Rest(s string, takes func(num, kind int) bool) {
	w.Ask(unknown(s, w.depth, takes))
	w.Put(s)
}

// unknown tells whether s is records at the depth, none of which the table takes.
func unknown(s string, depth int, takes func(num, kind int) bool) bool {
	l, err := wire.All(s, depth)
	if err != nil {
		return false
	}
	for _, r := range l {
		if takes(r.Num, r.Type) {
			return false
		}
	}
	return true
}

// End is the whole message, or why it may not be.
func (w *Writer) End() (string, error) {
	if w.err != nil {
		return "", w.err
	}
	return strings.Join(w.parts, ""), nil
}
