// Package path is layer 2: places in a value. See shared/doc/02-path.md.
package path

import (
	"slices"
	"strings"

	"mizzen/api"
	"mizzen/tree"
)

// Parse are the steps of a path that is written: words with dots between.
func Parse(s string) ([]string, api.Errno) {
	// Counted ahead of the cut, so that a text of dots makes no long list.
	if strings.Count(s, ".")+1 >= api.MaxDepth {
		return nil, api.ErrDeep
	}
	steps := strings.Split(s, ".")
	if !words(steps) {
		return nil, api.ErrForm
	}
	return steps, api.OK
}

// Print is a path, written; "": it can't be.
func Print(steps ...string) string {
	if !words(steps) {
		return ""
	}
	return strings.Join(steps, ".")
}

func words(steps []string) bool {
	return !slices.ContainsFunc(steps, func(s string) bool { return !word(s) })
}

func word(s string) bool {
	strange := func(r rune) bool {
		letter := 'a' <= r && r <= 'z' || 'A' <= r && r <= 'Z'
		digit := '0' <= r && r <= '9'
		return !letter && !digit && r != '_' && r != '-'
	}
	return s != "" && len(s) <= api.MaxKey && !strings.ContainsFunc(s, strange)
}

// Begins says whether a path begins as another one does.
func Begins(steps, with []string) bool {
	return len(steps) >= len(with) && slices.Equal(steps[:len(with)], with)
}

// Get is what stands at a path; false: nothing does.
func Get(v api.Value, steps ...string) (api.Value, bool) {
	x, ok := find(v, steps)
	return tree.Clone(x), ok
}

// Put is a value with another one at a path; what is no map on the way becomes one.
func Put(v, x api.Value, steps ...string) api.Value {
	return rebuilt(way(v, steps), steps, tree.Clone(x))
}

// Drop is a value without what stands at a path; all else stays.
func Drop(v api.Value, steps ...string) api.Value {
	if _, ok := find(v, steps); !ok {
		return tree.Clone(v)
	}
	if len(steps) == 0 {
		return tree.Null()
	}
	maps := way(v, steps)
	last := len(steps) - 1
	return rebuilt(maps[:last], steps, tree.Drop(maps[last], steps[last]))
}

// Prune is a value without what stands at a path, nor maps on the way that are empty then.
func Prune(v api.Value, steps ...string) api.Value {
	if _, ok := find(v, steps); !ok {
		return tree.Clone(v)
	}
	maps := way(v, steps)
	n := len(steps)
	// A map that has this one pair goes with it, so the path ends at that map; the outermost one stays.
	for n > 1 && len(maps[n-1].Map) == 1 {
		n--
	}
	return Drop(v, steps[:n]...)
}

// Leaf is a path, and what stands at its end: no map, or an empty one.
type Leaf struct {
	Steps []string
	Value api.Value
}

// Leaves are all leaves of a value, in order.
func Leaves(v api.Value) []Leaf {
	var l []Leaf
	var walk func(v api.Value, steps []string)
	walk = func(v api.Value, steps []string) {
		if v.Kind != api.Map || len(v.Map) == 0 {
			l = append(l, Leaf{Steps: slices.Clone(steps), Value: tree.Clone(v)})
			return
		}
		for _, p := range v.Map {
			walk(p.Value, append(steps, p.Key))
		}
	}
	walk(v, nil)
	return l
}
