package scope_test

import (
	"testing"

	"hygrometer/api"
	"hygrometer/probe"
	"hygrometer/scope"
)

var scopes = probe.Calls[api.Scope]{May: scope.May, Size: scope.Size, Marshal: scope.Marshal, Unmarshal: scope.Unmarshal, Same: scope.Same}

var resources = probe.Calls[api.Resource]{May: scope.MayRes, Size: scope.SizeRes, Marshal: scope.MarshalRes, Unmarshal: scope.UnmarshalRes, Same: scope.SameRes}

func attrs() []api.KeyValue {
	return []api.KeyValue{{Key: "k", Has: true, Value: api.Value{Kind: 3, N: 1}}, {}}
}

// P10.1, P10.3
func TestScopes(t *testing.T) {
	l := []api.Scope{{}, {Name: "a"}, {Version: "é"}, {Attrs: attrs()[1:]}, {Dropped: 1<<32 - 1}, {Unknown: "\x28\x01\x22\x01z"}, {Name: "a", Version: "b", Attrs: attrs(), Dropped: 300, Unknown: "\x08\x01"}}
	depths := []int{0, 0, 0, 1, 0, 0, 2}
	for i, s := range []string{"", "\x0A\x01a", "\x12\x02é", "\x1A\x00", "\x20\xFF\xFF\xFF\xFF\x0F", "\x28\x01\x22\x01z", "\x0A\x01a\x12\x01b\x1A\x07\x0A\x01k\x12\x02\x18\x01\x1A\x00\x20\xAC\x02\x08\x01"} {
		if text := scopes.Written(l[i], depths[i], s); text != "" {
			t.Errorf("case %d: %s", i, text)
		}
		if text := scopes.Near(s, 3); text != "" {
			t.Errorf("near case %d: %s", i, text)
		}
	}
	if text := scopes.Unlike(append(l, api.Scope{Name: "a", Version: "b", Attrs: attrs()[:1], Dropped: 300, Unknown: "\x08\x01"})); text != "" {
		t.Error(text)
	}
	for s, x := range map[string]api.Scope{
		"\x0A\x01a\x20\x01\x0A\x00\x20\x02\x12\x01v":             {Version: "v", Dropped: 2},
		"\x20\x81\x80\x80\x80\x10\x0A\x01n\x09abcdefgh\x0A\x01m": {Name: "m", Dropped: 1, Unknown: "\x09abcdefgh"},
		"\x1A\x00\x10\x05\x1A\x03\x0A\x01k":                      {Attrs: []api.KeyValue{{}, {Key: "k"}}, Unknown: "\x10\x05"},
	} {
		if text := scopes.Read(s, 2, x); text != "" {
			t.Error(text)
		}
	}
}

// P10.1
func TestScopesWrong(t *testing.T) {
	for i, x := range []api.Scope{{Name: "\xFF"}, {Version: "\xC0"}, {Attrs: []api.KeyValue{{}, {Key: "\x80"}}}, {Unknown: "\x0A\x00"}, {Unknown: "\x12\x00"}, {Unknown: "\x1A\x00"}, {Unknown: "\x20\x00"}, {Unknown: "\x28"}} {
		if text := scopes.Invalid(x, 9); text != "" {
			t.Errorf("case %d: %s", i, text)
		}
	}
	for s, code := range map[string]api.Code{"\x0A\x01\xFF\x0A\x00": api.ErrUTF8, "\x12\x01\xFF": api.ErrUTF8, "\x1A\x03\x0A\x01\xFF": api.ErrUTF8, "\x1A\x01\x0A": api.ErrShort, "\x20": api.ErrShort, "\x07": api.ErrForm, "\x20\xFF\xFF\xFF\xFF\xFF\xFF\xFF\xFF\xFF\x02": api.ErrVarint, "\x1A\x02\x12\x00": api.ErrDepth} {
		if text := scopes.Wrong(s, 1, code); text != "" {
			t.Error(text)
		}
	}
}

// P10.1, P10.3
func TestResources(t *testing.T) {
	l := []api.Resource{{}, {Attrs: attrs()[1:]}, {Dropped: 1}, {Unknown: "\x1A\x01z\x12\x00"}, {Attrs: attrs(), Dropped: 300, Unknown: "\x08\x01"}}
	depths := []int{0, 1, 0, 0, 2}
	for i, s := range []string{"", "\x0A\x00", "\x10\x01", "\x1A\x01z\x12\x00", "\x0A\x07\x0A\x01k\x12\x02\x18\x01\x0A\x00\x10\xAC\x02\x08\x01"} {
		if text := resources.Written(l[i], depths[i], s); text != "" {
			t.Errorf("case %d: %s", i, text)
		}
		if text := resources.Near(s, 3); text != "" {
			t.Errorf("near case %d: %s", i, text)
		}
	}
	if text := resources.Unlike(append(l, api.Resource{Attrs: attrs()[:1], Dropped: 300, Unknown: "\x08\x01"})); text != "" {
		t.Error(text)
	}
	for i, x := range []api.Resource{{Attrs: []api.KeyValue{{}, {Key: "\x80"}}}, {Unknown: "\x0A\x00"}, {Unknown: "\x10\x00"}, {Unknown: "\x1A"}} {
		if text := resources.Invalid(x, 9); text != "" {
			t.Errorf("case %d: %s", i, text)
		}
	}
	for s, code := range map[string]api.Code{"\x0A\x03\x0A\x01\xFF": api.ErrUTF8, "\x0A\x01\x0A": api.ErrShort, "\x10": api.ErrShort, "\x07": api.ErrForm, "\x0A\x02\x12\x00": api.ErrDepth} {
		if text := resources.Wrong(s, 1, code); text != "" {
			t.Error(text)
		}
	}
	if text := resources.Read("\x10\x01\x0A\x00\x10\x80\x80\x80\x80\x10\x08\x07\x0A\x00", 1, api.Resource{Attrs: make([]api.KeyValue, 2), Unknown: "\x08\x07"}); text != "" {
		t.Error(text)
	}
}

// P10.2
func TestNew(t *testing.T) {
	x, _ := scope.Unmarshal("\x1A\x00\x1A\x00", 1)
	y, _ := scope.Unmarshal("\x1A\x00\x1A\x00", 1)
	x.Attrs[0].Key = "z"
	if !scope.Same(y, api.Scope{Attrs: make([]api.KeyValue, 2)}) {
		t.Error("one shows what was written into another")
	}
	room := append(make([]api.KeyValue, 0, 4), attrs()...)
	if s, err := scope.MarshalRes(api.Resource{Attrs: room[1:]}, 3); s != "\x0A\x00" || err != nil || !room[0].Has {
		t.Error(s, err)
	}
}
