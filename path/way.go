package path

import (
	"slices"

	"mizzen/api"
	"mizzen/tree"
)

// The calls here hand out parts of what they are given, uncopied: each step would else copy all that lies behind it.

// child is what a map has under a key; false: it is none, or has nothing there.
func child(v api.Value, key string) (api.Value, bool) {
	if v.Kind != api.Map {
		return api.Value{}, false
	}
	i := place(v, key)
	if i < 0 {
		return api.Value{}, false
	}
	return v.Map[i].Value, true
}

func place(v api.Value, key string) int {
	return slices.IndexFunc(v.Map, func(p api.Pair) bool { return p.Key == key })
}

// find is what stands at a path; false: nothing does.
func find(v api.Value, steps []string) (api.Value, bool) {
	ok := true
	for _, step := range steps {
		if v, ok = child(v, step); !ok {
			return api.Value{}, false
		}
	}
	return v, true
}

// way is, step by step, what the step is taken in: nothing, where nothing stands.
func way(v api.Value, steps []string) []api.Value {
	l := make([]api.Value, 0, len(steps))
	for _, step := range steps {
		l = append(l, v)
		v, _ = child(v, step)
	}
	return l
}

// rebuilt is the value whose way that is, with x behind it; x is not copied. It goes back step by step, as a path may have more steps than calls may stand in each other.
func rebuilt(way []api.Value, steps []string, x api.Value) api.Value {
	for i, v := range slices.Backward(way) {
		x = with(v, steps[i], x)
	}
	return x
}

// with is a map of its own with x itself under a key.
func with(v api.Value, key string, x api.Value) api.Value {
	m := tree.Put(v, key, tree.Null())
	m.Map[place(m, key)].Value = x
	return m
}
