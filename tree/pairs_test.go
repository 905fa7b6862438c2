package tree_test

import (
	"slices"
	"testing"

	"mizzen/api"
	"mizzen/sample"
	"mizzen/tree"
)

var keys = []string{"", "0", "a", "aa", "b", "c", "d", "\xff"}

// others are a value's pairs but for a key's; of what is no map none.
func others(v api.Value, key string) []api.Pair {
	if v.Kind != api.Map {
		return nil
	}
	return slices.DeleteFunc(slices.Clone(v.Map), func(p api.Pair) bool { return p.Key == key })
}

func TestGet(t *testing.T) {
	m := rawMap(pair("a", one(1)), pair("b", tree.Null()), pair("c", rawList(one(2))))
	for _, c := range []struct {
		v   api.Value
		key string
		x   api.Value
		ok  bool
	}{
		{m, "a", one(1), true},
		{m, "b", tree.Null(), true},
		{m, "c", rawList(one(2)), true},
		{m, "", api.Value{}, false},
		{m, "aa", api.Value{}, false},
		{m, "d", api.Value{}, false},
		{rawMap(), "a", api.Value{}, false},
		{rawList(m), "a", api.Value{}, false},
		{tree.Str("a"), "a", api.Value{}, false},
		{tree.Null(), "a", api.Value{}, false},
		{api.Value{Kind: api.Str, Map: m.Map}, "a", api.Value{}, false},
	} {
		x, ok := tree.Get(c.v, c.key)
		want(t, "Get "+c.key, x, c.x)
		want(t, "Get "+c.key, ok, c.ok)
	}
}

func TestPut(t *testing.T) {
	x := rawMap(pair("x", one(1)))
	for _, v := range sample.Values() {
		for _, key := range keys {
			got := tree.Put(v, key, x)
			want(t, "Put", got, tree.Map(append(others(v, key), pair(key, x))...))
			back, ok := tree.Get(got, key)
			want(t, "Get behind Put", back, x)
			want(t, "Get behind Put", ok, true)
		}
	}
	ill := api.Value{Kind: api.Map, Str: "x", Map: []api.Pair{pair("b", one(1)), pair("a", one(2))}}
	if back, ok := tree.Get(tree.Put(ill, "a", x), "a"); !ok || dump(back) != dump(x) {
		t.Error("what is put into a map that may not be isn't there")
	}
}

func TestDrop(t *testing.T) {
	for _, v := range sample.Values() {
		for _, key := range keys {
			got := tree.Drop(v, key)
			if v.Kind != api.Map {
				want(t, "Drop from no map", got, v)
				continue
			}
			want(t, "Drop", got, tree.Map(others(v, key)...))
			_, ok := tree.Get(got, key)
			want(t, "Get behind Drop", ok, false)
		}
	}
}
