package tree_test

import (
	"strings"
	"testing"

	"mizzen/api"
	"mizzen/sample"
	"mizzen/tree"
)

func rawMap(l ...api.Pair) api.Value { return api.Value{Kind: api.Map, Map: l} }

func rawList(l ...api.Value) api.Value { return api.Value{Kind: api.List, List: l} }

func wide(n int) api.Value { return rawList(make([]api.Value, n)...) }

func TestCheckOfValuesThatMayBe(t *testing.T) {
	for _, v := range sample.Values() {
		if e := tree.Check(v); e != api.OK {
			t.Errorf("%s: %d", dump(v), e)
		}
	}
	empties := api.Value{Kind: api.Int, Int: 1, List: []api.Value{}, Map: []api.Pair{}}
	if e := tree.Check(empties); e != api.OK {
		t.Errorf("empty lists that aren't nil: %d", e)
	}
}

func TestCheckAtTheLimits(t *testing.T) {
	keys := func(n int) api.Value {
		var l []api.Pair
		for i := range n {
			l = append(l, pair(string([]byte{byte('a' + i/676), byte('a' + i/26%26), byte('a' + i%26)}), tree.Null()))
		}
		return rawMap(l...)
	}
	for _, c := range []struct {
		what string
		v    api.Value
		e    api.Errno
	}{
		{"depth 16", sample.Nest(15, one(1)), api.OK},
		{"depth 17", sample.Nest(16, one(1)), api.ErrDeep},
		{"depth 16 of maps", sample.Maps(15, one(1)), api.OK},
		{"depth 17 of maps", sample.Maps(16, one(1)), api.ErrDeep},
		{"depth 17 behind others", rawList(one(1), sample.Nest(3, one(1)), sample.Nest(15, one(1))), api.ErrDeep},
		{"depth 65536", sample.Nest(65535, one(1)), api.ErrDeep},
		{"size 4096", wide(4095), api.OK},
		{"size 4097", wide(4096), api.ErrSize},
		{"size 4096 of a map", keys(4095), api.OK},
		{"size 4097 of a map", keys(4096), api.ErrSize},
		{"size 4097 in parts", rawList(wide(2000), keys(2094)), api.ErrSize},
		{"size 4096 in parts", rawList(wide(2000), keys(2093)), api.OK},
		{"text of 65536", tree.Str(strings.Repeat("x", 65536)), api.OK},
		{"text of 65537", tree.Str(strings.Repeat("x", 65537)), api.ErrForm},
		{"key of 256", rawMap(pair(strings.Repeat("k", 256), one(1))), api.OK},
		{"key of 257", rawMap(pair(strings.Repeat("k", 257), one(1))), api.ErrKey},
	} {
		if e := tree.Check(c.v); e != c.e {
			t.Errorf("%s: %d, want %d", c.what, e, c.e)
		}
	}
}

func TestCheckOfKinds(t *testing.T) {
	full := []api.Value{
		{Bool: true}, {Int: 1}, {Str: "x"}, {List: []api.Value{one(1)}}, {Map: []api.Pair{pair("a", one(1))}},
	}
	for kind := api.Null; kind <= api.Map; kind++ {
		for i, v := range full {
			v.Kind = kind
			wanted := api.ErrKind
			if kind == i+1 {
				wanted = api.OK
			}
			if e := tree.Check(v); e != wanted {
				t.Errorf("%s: %d, want %d", dump(v), e, wanted)
			}
		}
	}
	for _, kind := range []int{-1, 6, 1 << 40, -1 << 63} {
		if e := tree.Check(api.Value{Kind: kind}); e != api.ErrKind {
			t.Errorf("kind %d: %d", kind, e)
		}
	}
}

func TestCheckInOrder(t *testing.T) {
	noKind, noText := api.Value{Kind: 6}, tree.Str("\x7f")
	noKey, twice := rawMap(pair("", one(1))), rawMap(pair("a", one(1)), pair("a", one(2)))
	deep := sample.Nest(16, one(1))
	hidden := api.Value{Kind: api.Str, Str: "\x00", List: []api.Value{deep}}
	for _, c := range []struct {
		what string
		v    api.Value
		e    api.Errno
	}{
		{"text", noText, api.ErrForm},
		{"empty key", noKey, api.ErrKey},
		{"key with a tab", rawMap(pair("a\t", one(1))), api.ErrKey},
		{"key with a line feed", rawMap(pair("a\n", one(1))), api.ErrKey},
		{"key with a strange byte", rawMap(pair("a\x80", one(1))), api.ErrKey},
		{"one key twice", twice, api.ErrTwice},
		{"keys that fall", rawMap(pair("b", one(1)), pair("a", one(2))), api.ErrTwice},
		{"keys that fall at last", rawMap(pair("a", one(1)), pair("b", one(1)), pair("aa", one(2))), api.ErrTwice},

		{"depth ahead of size", rawList(wide(5000), deep), api.ErrDeep},
		{"depth by what is there, whatever the kind", hidden, api.ErrDeep},
		{"size ahead of kind", rawList(noKind, wide(5000)), api.ErrSize},
		{"size by what is there, whatever the kind", api.Value{Kind: api.Null, List: make([]api.Value, 4096)}, api.ErrSize},
		{"depth ahead of kind", rawList(noKind, deep), api.ErrDeep},
		{"kind ahead of text", api.Value{Kind: api.Str, Str: "\x00", Int: 1}, api.ErrKind},
		{"text of another kind is one too much", api.Value{Kind: api.Int, Str: "\x00"}, api.ErrKind},
		{"a list's kind ahead of its values", api.Value{Kind: api.List, Int: 1, List: []api.Value{noText}}, api.ErrKind},
		{"a map's kind ahead of its keys", api.Value{Kind: api.Map, Int: 1, Map: noKey.Map}, api.ErrKind},
		{"first value first", rawList(noText, noKind), api.ErrForm},
		{"first value first, with what is in it", rawList(rawList(one(1), rawList(noText)), noKind), api.ErrForm},
		{"key ahead of its value", rawMap(pair("", noKind)), api.ErrKey},
		{"key ahead of order", rawMap(pair("a", one(1)), pair("", one(1))), api.ErrKey},
		{"order ahead of the value", rawMap(pair("a", one(1)), pair("a", noKind)), api.ErrTwice},
		{"value ahead of the next key", rawMap(pair("a", noText), pair("", one(1))), api.ErrForm},
		{"value ahead of the next pair's order", rawMap(pair("a", noKind), pair("a", one(1))), api.ErrKind},
		{"a map in a list", rawList(one(1), twice), api.ErrTwice},
		{"a map in a map", rawMap(pair("a", noKey)), api.ErrKey},
		{"keys of two maps are no pairs of one", rawMap(pair("b", rawMap(pair("a", one(1)))), pair("c", one(1))), api.OK},
	} {
		if e := tree.Check(c.v); e != c.e {
			t.Errorf("%s: %d, want %d", c.what, e, c.e)
		}
	}
}

func TestCheckStopsWhereItIsTooDeep(t *testing.T) {
	v := one(1)
	for range 60 {
		v = rawList(v, v)
	}
	if e := tree.Check(v); e != api.ErrDeep {
		t.Errorf("a list of two, 60 deep: %d", e)
	}
}
