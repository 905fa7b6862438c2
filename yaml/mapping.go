package yaml

import (
	"slices"
	"strings"

	"mizzen/api"
)

// A mapping is a map that is being read. Its keys are looked up at once, so that a long one isn't gone through for each pair.
type mapping struct {
	pairs []api.Pair
	keys  map[string]struct{}
}

func (m *mapping) has(key string) bool {
	_, ok := m.keys[key]
	return ok
}

func (m *mapping) put(key string, v api.Value) {
	if m.keys == nil {
		m.keys = map[string]struct{}{}
	}
	m.keys[key] = struct{}{}
	m.pairs = append(m.pairs, api.Pair{Key: key, Value: v})
}

// value is the map, by rising keys. (Made by hand: layer 1's Map would copy all that is in it, at each depth anew.)
func (m *mapping) value() api.Value {
	slices.SortFunc(m.pairs, func(a, b api.Pair) int { return strings.Compare(a.Key, b.Key) })
	return api.Value{Kind: api.Map, Map: m.pairs}
}
