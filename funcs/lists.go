package funcs

import (
	"slices"

	"mizzen/api"
	"mizzen/tree"
)

// checked is a value that was made, if it may be.
func checked(v api.Value) (api.Value, api.Errno) { return v, tree.Check(v) }

// dict is the map of keys and values by turns.
func dict(l []api.Value) (api.Value, api.Errno) {
	if len(l)%2 != 0 {
		return api.Value{}, api.ErrArg
	}
	pairs := make([]api.Pair, 0, len(l)/2)
	for i := 0; i < len(l); i += 2 {
		if l[i].Kind != api.Str {
			return api.Value{}, api.ErrKind
		}
		pairs = append(pairs, api.Pair{Key: l[i].Str, Value: l[i+1]})
	}
	return checked(tree.Map(pairs...))
}

// length is how many bytes, values or pairs a value has.
func length(v api.Value) (api.Value, api.Errno) {
	n := 0
	switch v.Kind {
	case api.Str:
		n = len(v.Str)
	case api.List:
		n = len(v.List)
	case api.Map:
		n = len(v.Map)
	default:
		return api.Value{}, api.ErrKind
	}
	return tree.Int(int64(n)), api.OK
}

// under is what a map has under a key, or a list at a place; nothing, if it has none.
func under(v, k api.Value) (api.Value, api.Errno) {
	switch {
	case v.Kind == api.Map && k.Kind == api.Str:
		x, _ := tree.Get(v, k.Str)
		return x, api.OK
	case v.Kind == api.List && k.Kind == api.Int:
		if k.Int < 0 || k.Int >= int64(len(v.List)) {
			return tree.Null(), api.OK
		}
		return tree.Clone(v.List[k.Int]), api.OK
	}
	return api.Value{}, api.ErrKind
}

// keys is the list of a map's keys.
func keys(v api.Value) (api.Value, api.Errno) {
	if v.Kind != api.Map {
		return api.Value{}, api.ErrKind
	}
	l := make([]api.Value, 0, len(v.Map))
	for _, p := range v.Map {
		l = append(l, tree.Str(p.Key))
	}
	return tree.List(l...), api.OK
}

// has says whether a list has a value that is this one.
func has(v, list api.Value) (api.Value, api.Errno) {
	if list.Kind != api.List {
		return api.Value{}, api.ErrKind
	}
	found := slices.ContainsFunc(list.List, func(x api.Value) bool { return tree.Same(x, v) })
	return tree.Bool(found), api.OK
}
