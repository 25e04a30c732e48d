package message

import (
	"strings"

	"hygrometer/api"
	"hygrometer/blame"
	"hygrometer/utf"
	"hygrometer/wire"
)

// Read hands the records of a message that its table takes to take, one by one,
// and answers the others. An error is told with the place of its record.
func Read(s string, depth int, takes func(num, kind int) bool, take func(r wire.Record) error) (string, error) {
	if depth < 0 {
		return "", blame.At(0, api.ErrDepth)
	}
	l, err := wire.All(s, depth)
	if err != nil {
		return "", err
	}
	var rest []string
	at := 0
	for _, r := range l {
		if !takes(r.Num, r.Type) {
			rest = append(rest, r.Raw)
		} else if err := take(r); err != nil {
			return "", blame.At(at, err)
		}
		at += len(r.Raw)
	}
	return strings.Join(rest, ""), nil
}

// Add reads s as one more of a list.
func Add[T any](l *[]T, s string, depth int, read func(s string, depth int) (T, error)) error {
	x, err := read(s, depth)
	if err == nil {
		*l = append(*l, x)
	}
	return err
}

// Text reads s as a text.
func Text(to *string, s string) error {
	err := utf.Check(s)
	if err == nil {
		*to = s
	}
	return err
}

// AddNums reads a record of packed nums: many in a Len, or one.
func AddNums(l *[]uint64, r wire.Record) error { return pack(l, r, wire.Fixeds) }

// AddVars reads a record of packed vars: many in a Len, or one.
func AddVars(l *[]uint64, r wire.Record) error { return pack(l, r, wire.Varints) }

func pack(l *[]uint64, r wire.Record, read func(s string) ([]uint64, error)) error {
	if r.Type != wire.Len {
		*l = append(*l, r.N)
		return nil
	}
	more, err := read(r.S)
	*l = append(*l, more...)
	return err
}

// Parts are the bytes of a message that may stand in several records, which are read as one.
type Parts struct{ l []string }

// Add takes one more record's bytes.
func (p *Parts) Add(s string) { p.l = append(p.l, s) }

// Has tells whether there was a record.
func (p *Parts) Has() bool { return len(p.l) > 0 }

// Bytes are all bytes, one behind the other.
func (p *Parts) Bytes() string { return strings.Join(p.l, "") }

// Whole reads the parts as one message, and tells whether there is one.
func Whole[T any](p Parts, num, depth int, read func(s string, depth int) (T, error)) (T, bool, error) {
	var none T
	if !p.Has() {
		return none, false, nil
	}
	x, err := read(p.Bytes(), depth)
	if err != nil {
		return none, false, blame.At(0, blame.In(num, err))
	}
	return x, true, nil
}

// One is the record that stands in a group "one of" (Num 0: none), and the Parts
// of those of its number behind the last one of another.
type One struct {
	wire.Record
	Parts Parts
}

// Take lets a record stand in the group.
func (o *One) Take(r wire.Record) {
	if r.Num != o.Num {
		o.Parts = Parts{}
	}
	o.Record = r
	o.Parts.Add(r.S)
}
