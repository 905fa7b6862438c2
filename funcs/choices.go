package funcs

import (
	"slices"

	"mizzen/api"
	"mizzen/tree"
)

// compared is what eq, ne or lt says of two values that compare so.
func compared(name string, c int) bool {
	switch name {
	case "eq":
		return c == 0
	case "ne":
		return c != 0
	}
	return c < 0
}

// first is the first value that counts as said, or else the last one.
func first(l []api.Value, truth bool) api.Value {
	i := slices.IndexFunc(l, func(v api.Value) bool { return tree.Truth(v) == truth })
	if i < 0 {
		i = len(l) - 1
	}
	return tree.Clone(l[i])
}

// either is the one value or the other one, as a value counts as true or not.
func either(v, yes, no api.Value) api.Value {
	if tree.Truth(v) {
		return tree.Clone(yes)
	}
	return tree.Clone(no)
}

// required is a value that is there: neither nothing nor an empty text.
func required(v api.Value) (api.Value, api.Errno) {
	if v.Kind == api.Null || v.Kind == api.Str && v.Str == "" {
		return api.Value{}, api.ErrArg
	}
	return tree.Clone(v), api.OK
}
