// Package tree is layer 1: values, and what they are. See shared/doc/01-tree.md.
package tree

import (
	"slices"
	"strings"

	"mizzen/api"
)

// Null is nothing.
func Null() api.Value { return api.Value{Kind: api.Null} }

// Bool is a truth.
func Bool(b bool) api.Value { return api.Value{Kind: api.Bool, Bool: b} }

// Int is a whole number.
func Int(n int64) api.Value { return api.Value{Kind: api.Int, Int: n} }

// Str is a text.
func Str(s string) api.Value { return api.Value{Kind: api.Str, Str: s} }

// List is a list of values.
func List(l ...api.Value) api.Value {
	return api.Value{Kind: api.List, List: cloneValues(l)}
}

// Map is a map of pairs: by rising keys; of one key the last one.
func Map(l ...api.Pair) api.Value {
	sorted := slices.Clone(l)
	// Only a stable sort leaves the last one of a key behind the others.
	slices.SortStableFunc(sorted, func(a, b api.Pair) int { return strings.Compare(a.Key, b.Key) })
	var kept []api.Pair
	for i, p := range sorted {
		if i+1 == len(sorted) || sorted[i+1].Key != p.Key {
			kept = append(kept, clonePair(p))
		}
	}
	return api.Value{Kind: api.Map, Map: kept}
}

// Clone is the same value, for itself: even one that may not be is copied whole.
func Clone(v api.Value) api.Value {
	v.List = cloneValues(v.List)
	v.Map = clonePairs(v.Map)
	return v
}

func cloneValues(l []api.Value) []api.Value {
	if len(l) == 0 {
		return nil
	}
	out := make([]api.Value, 0, len(l))
	for _, v := range l {
		out = append(out, Clone(v))
	}
	return out
}

func clonePairs(l []api.Pair) []api.Pair {
	if len(l) == 0 {
		return nil
	}
	out := make([]api.Pair, 0, len(l))
	for _, p := range l {
		out = append(out, clonePair(p))
	}
	return out
}

func clonePair(p api.Pair) api.Pair {
	return api.Pair{Key: p.Key, Value: Clone(p.Value)}
}

// Size is how many values a value has, itself counted.
func Size(v api.Value) int {
	n := 1
	for _, x := range v.List {
		n += Size(x)
	}
	for _, p := range v.Map {
		n += Size(p.Value)
	}
	return n
}

// Depth is how many values stand in each other at most.
func Depth(v api.Value) int {
	most := 0
	for _, x := range v.List {
		most = max(most, Depth(x))
	}
	for _, p := range v.Map {
		most = max(most, Depth(p.Value))
	}
	return most + 1
}
