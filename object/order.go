package object

import (
	"cmp"
	"slices"
	"strings"

	"mizzen/api"
	"mizzen/tree"
)

// ranked are the kinds that come ahead of all others, in order.
var ranked = [...]string{"Namespace", "Secret", "ConfigMap", "Volume", "Account", "Role", "Service", "Deployment", "Job", "Ingress"}

// Rank is a kind's place among those that come ahead; of others how many these are.
func Rank(kind string) int {
	for place, k := range ranked {
		if k == kind {
			return place
		}
	}
	return len(ranked)
}

// Compare compares two by where their kinds stand, then by kind, space, name.
func Compare(a, b api.ID) int {
	if c := cmp.Compare(Rank(a.Kind), Rank(b.Kind)); c != 0 {
		return c
	}
	// Word by word: their texts would be held against each other with the slashes, and some bytes are below these.
	other := words(b)
	for i, word := range words(a) {
		if c := strings.Compare(word, other[i]); c != 0 {
			return c
		}
	}
	return 0
}

// Sort are objects in order; ErrTwice: two are one.
func Sort(l []api.Object) ([]api.Object, api.Errno) {
	sorted := slices.Clone(l)
	slices.SortFunc(sorted, func(a, b api.Object) int { return Compare(a.ID, b.ID) })
	for i, o := range sorted {
		if i > 0 && sorted[i-1].ID == o.ID {
			return nil, api.ErrTwice
		}
	}
	out := make([]api.Object, 0, len(sorted))
	for _, o := range sorted {
		out = append(out, clone(o))
	}
	return out, api.OK
}

// clone is the same object, for itself.
func clone(o api.Object) api.Object {
	return api.Object{ID: o.ID, Body: tree.Clone(o.Body)}
}

// Find is the object that is known so; false: there is none.
func Find(l []api.Object, id api.ID) (api.Object, bool) {
	i := slices.IndexFunc(l, func(o api.Object) bool { return o.ID == id })
	if i < 0 {
		return api.Object{}, false
	}
	return clone(l[i]), true
}

// Same says whether objects are the same, one by one.
func Same(a, b []api.Object) bool {
	return slices.EqualFunc(a, b, func(x, y api.Object) bool {
		return x.ID == y.ID && tree.Same(x.Body, y.Body)
	})
}
