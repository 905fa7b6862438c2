package tree

import (
	"cmp"
	"slices"
	"strings"

	"mizzen/api"
)

// Same says whether two values are one.
func Same(a, b api.Value) bool { return Compare(a, b) == 0 }

// Compare compares two values: by kind, then by what they have, part by part.
func Compare(a, b api.Value) int {
	if a.Kind != b.Kind {
		return cmp.Compare(a.Kind, b.Kind)
	}
	switch a.Kind {
	case api.Bool:
		return compareBools(a.Bool, b.Bool)
	case api.Int:
		return cmp.Compare(a.Int, b.Int)
	case api.Str:
		return strings.Compare(a.Str, b.Str)
	case api.List:
		return slices.CompareFunc(a.List, b.List, Compare)
	case api.Map:
		return slices.CompareFunc(a.Map, b.Map, comparePairs)
	}
	return 0
}

func compareBools(a, b bool) int {
	switch {
	case a == b:
		return 0
	case b:
		return -1
	}
	return 1
}

func comparePairs(a, b api.Pair) int {
	if a.Key != b.Key {
		return strings.Compare(a.Key, b.Key)
	}
	return Compare(a.Value, b.Value)
}
