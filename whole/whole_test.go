// Package whole asks of the program what DOC.md promises of all of it.
package whole_test

import (
	"math/rand"
	"slices"
	"testing"

	"hygrometer/api"
	"hygrometer/batch"
	"hygrometer/blame"
	"hygrometer/check"
	"hygrometer/pack"
	"hygrometer/script"
	"hygrometer/session"
	"hygrometer/wire"
)

// records are some records of any kind, nested at most so deep.
func records(rnd *rand.Rand, depth int) string {
	s := ""
	for range rnd.Intn(4) {
		num := 1 + rnd.Intn(14)
		switch kind := rnd.Intn(9); {
		case kind == 0:
			s += wire.Varint(num, rnd.Uint64()>>rnd.Intn(64))
		case kind == 1:
			s += wire.Fixed(num, rnd.Uint64()>>rnd.Intn(64))
		case kind == 2:
			s += wire.Tag(num, wire.F32) + "abcd"
		case kind == 3 && depth > 0:
			s += wire.Tag(num, wire.Begin) + records(rnd, depth-1) + wire.Tag(num, wire.End)
		case depth > 0:
			s += wire.Bytes(num, records(rnd, depth-1))
		default:
			s += wire.Bytes(num, "")
		}
	}
	return s
}

// request is bytes that are often a request, with something at each of its depths.
func request(rnd *rand.Rand) string {
	point := wire.Bytes(1, records(rnd, 3))
	kind := []int{5, 7, 9, 10, 11}[rnd.Intn(5)]
	metric := wire.Bytes(2, records(rnd, 1)+wire.Bytes(kind, records(rnd, 1)+point))
	return wire.Bytes(1, records(rnd, 1)+wire.Bytes(2, records(rnd, 1)+metric)) + records(rnd, 0)
}

// P0.8, P0.9, P0.10: what is read is written and read, and packed and unpacked, the same.
func TestAnyBytes(t *testing.T) {
	rnd := rand.New(rand.NewSource(1))
	read := 0
	for range 60000 {
		s := request(rnd)
		b, err := batch.Unmarshal(s)
		if err != nil {
			if code := blame.Code(err); code == api.ErrOther || code == api.ErrInvalid {
				t.Fatalf("% X: %v", s, err)
			}
			continue
		}
		read++
		m, err := batch.Marshal(b)
		if err != nil {
			t.Fatalf("% X: %v", s, err)
		}
		again, err := batch.Unmarshal(m)
		if err != nil || !batch.Same(again, b) {
			t.Fatalf("% X is read as another one: %v", s, err)
		}
		if n, err := batch.Marshal(again); err != nil || n != m {
			t.Fatalf("% X is written as % X and as % X", s, m, n)
		}
		z, err := pack.Pack(b)
		if err != nil {
			t.Fatalf("% X: %v", s, err)
		}
		if u, err := pack.Unpack(z); err != nil || !batch.Same(u, b) {
			t.Fatalf("% X: its container is another one's: %v", s, err)
		}
		fine, left, _ := check.Split(b)
		if batch.Points(fine)+left != batch.Points(b) {
			t.Fatalf("% X: points are lost", s)
		}
		if _, left, reason := check.Split(fine); left != 0 || reason != check.Fine {
			t.Fatalf("% X: split again leaves out %d", s, left)
		}
	}
	if read < 3000 {
		t.Error("only", read, "were read")
	}
}

// P0.12, P0.13: sessions that are told the same tell the same, and lose no point.
func TestSessions(t *testing.T) {
	rnd := rand.New(rand.NewSource(2))
	for range 200 {
		c := script.Config(rnd.Intn(9), rnd.Intn(9), rnd.Intn(20), rnd.Intn(9))
		a, err := session.New(c)
		if err != nil {
			t.Fatal(err)
		}
		other, err := session.New(c)
		if err != nil {
			t.Fatal(err)
		}
		b := make([]byte, rnd.Intn(3000))
		rnd.Read(b)
		for _, step := range script.Steps(b) {
			before := a.Told() + a.Rejected()
			told, again := script.Run(a, []script.Step{step}), script.Run(other, []script.Step{step})
			if !slices.Equal(told, again) {
				t.Fatalf("%q and %q", told, again)
			}
			points := 0
			if x, err := batch.Unmarshal(step.Bytes); err == nil && told[0][0] == 'a' {
				points = batch.Points(x)
			}
			if a.Told()+a.Rejected()-before != points || a.Table().Len() > c.Streams {
				t.Fatal("points are lost, or streams too many")
			}
		}
	}
}
