package batch

import (
	"errors"

	"hygrometer/api"
	"hygrometer/blame"
	"hygrometer/message"
	"hygrometer/wire"
)

// takesPartial is the table of the message within a response. A response's own
// is that of Batch.
func takesPartial(num, kind int) bool {
	return num == 1 && kind == wire.Num || num == 2 && kind == wire.Len
}

// MayAnswer tells whether a response may be, however many bytes it has.
func MayAnswer(r api.Response) bool {
	_, err := Answer(r)
	return !errors.Is(err, api.ErrInvalid)
}

// Answer writes a response.
func Answer(r api.Response) (string, error) {
	w := message.New(api.MaxDepth)
	if r.Has {
		w.Open(1)
		w.Var(1, uint64(r.Rejected))
		w.Text(2, r.Message)
		w.Rest(r.Inner, takesPartial)
		w.Close()
	} else {
		w.Ask(r.Rejected == 0 && r.Message == "" && r.Inner == "")
	}
	w.Rest(r.Unknown, takes)
	return small(w.End())
}

// ReadAnswer reads a response.
func ReadAnswer(s string) (api.Response, error) {
	if len(s) > api.MaxBytes {
		return api.Response{}, tooLarge()
	}
	var parts message.Parts
	rest, err := message.Read(s, api.MaxDepth, takes, func(r wire.Record) error {
		parts.Add(r.S)
		return nil
	})
	if err != nil {
		return api.Response{}, err
	}
	x, has, err := message.Whole(parts, 1, api.MaxDepth-1, readPartial)
	if err != nil {
		return api.Response{}, err
	}
	x.Has, x.Unknown = has, rest
	return x, nil
}

// readPartial reads the message within a response.
func readPartial(s string, depth int) (api.Response, error) {
	var x api.Response
	rest, err := message.Read(s, depth, takesPartial, func(r wire.Record) error {
		if r.Num == 1 {
			x.Rejected = int64(r.N)
			return nil
		}
		return blame.In(2, message.Text(&x.Message, r.S))
	})
	x.Inner = rest
	return x, err
}
