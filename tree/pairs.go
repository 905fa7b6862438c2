package tree

import (
	"slices"

	"mizzen/api"
)

// Get is what a map has under a key; false: it is none, or has nothing there.
func Get(v api.Value, key string) (api.Value, bool) {
	l := pairs(v)
	i := slices.IndexFunc(l, func(p api.Pair) bool { return p.Key == key })
	if i < 0 {
		return api.Value{}, false
	}
	return Clone(l[i].Value), true
}

// Put is a map with a value under a key; of others a map with that alone.
func Put(v api.Value, key string, x api.Value) api.Value {
	l := pairs(v)
	i := slices.IndexFunc(l, func(p api.Pair) bool { return p.Key >= key })
	if i < 0 {
		i = len(l)
	}
	ahead, behind := l[:i], l[i:]
	if len(behind) > 0 && behind[0].Key == key {
		behind = behind[1:]
	}
	here := api.Pair{Key: key, Value: Clone(x)}
	return api.Value{Kind: api.Map, Map: slices.Concat(clonePairs(ahead), []api.Pair{here}, clonePairs(behind))}
}

// Drop is a map without a key; others are as they are.
func Drop(v api.Value, key string) api.Value {
	if v.Kind != api.Map {
		return Clone(v)
	}
	rest := slices.DeleteFunc(slices.Clone(v.Map), func(p api.Pair) bool { return p.Key == key })
	return api.Value{Kind: api.Map, Map: clonePairs(rest)}
}

// pairs are those of a map; of others none.
func pairs(v api.Value) []api.Pair {
	if v.Kind != api.Map {
		return nil
	}
	return v.Map
}
