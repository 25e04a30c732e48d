package fresh_test

import (
	"reflect"
	"testing"

	"hygrometer/api"
	"hygrometer/fresh"
)

// fill puts something into all that x has.
func fill(x reflect.Value, depth int) {
	switch x.Kind() {
	case reflect.Struct:
		for i := range x.NumField() {
			fill(x.Field(i), depth)
		}
	case reflect.Slice:
		if depth > 0 {
			x.Set(reflect.MakeSlice(x.Type(), 2, 5))
			fill(x.Index(0), depth-1)
			fill(x.Index(1), depth-1)
		}
	case reflect.String:
		x.SetString("s")
	case reflect.Bool:
		x.SetBool(true)
	case reflect.Int, reflect.Int32:
		x.SetInt(3)
	case reflect.Uint32, reflect.Uint64:
		x.SetUint(4)
	}
}

// blot writes over all lists within x.
func blot(x reflect.Value) {
	switch x.Kind() {
	case reflect.Struct:
		for i := range x.NumField() {
			blot(x.Field(i))
		}
	case reflect.Slice:
		for i := range x.Len() {
			blot(x.Index(i))
			x.Index(i).SetZero()
		}
	}
}

func check[T any](t *testing.T, copied func(T) T) {
	var x, want T
	fill(reflect.ValueOf(&x).Elem(), 4)
	fill(reflect.ValueOf(&want).Elem(), 4)
	y := copied(x)
	if !reflect.DeepEqual(y, want) {
		t.Errorf("%T: the copy is another one", x)
	}
	blot(reflect.ValueOf(&y).Elem())
	if !reflect.DeepEqual(x, want) {
		t.Errorf("%T: what is written into the copy is seen elsewhere", x)
	}
	var none T
	if !reflect.DeepEqual(copied(none), none) {
		t.Errorf("%T: of a zero one", x)
	}
}

// P0.4
func TestCopies(t *testing.T) {
	check(t, fresh.Nums)
	check(t, fresh.Value)
	check(t, fresh.Keys)
	check(t, fresh.Resource)
	check(t, fresh.Scope)
	check(t, fresh.Exemplar)
	check(t, fresh.Number)
	check(t, fresh.Hist)
	check(t, fresh.Buckets)
	check(t, fresh.Exp)
	check(t, fresh.Summary)
	check(t, fresh.Metric)
	if fresh.Nums(make([]uint64, 0, 5)) != nil || fresh.Keys([]api.KeyValue{}) != nil {
		t.Error("of an empty one")
	}
}
