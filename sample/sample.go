// Package sample has the values and texts that tests try the layers' calls with, and shows what memory these share. They are written out, so that they hang on no call that is tried.
package sample

import (
	"math"
	"slices"

	"mizzen/api"
)

// Plain are values of each kind that have no values in them.
func Plain() []api.Value {
	return []api.Value{
		{},
		{Kind: api.Bool},
		{Kind: api.Bool, Bool: true},
		{Kind: api.Int, Int: math.MinInt64},
		{Kind: api.Int, Int: -1},
		{Kind: api.Int},
		{Kind: api.Int, Int: 7},
		{Kind: api.Int, Int: math.MaxInt64},
		{Kind: api.Str},
		{Kind: api.Str, Str: "a"},
		{Kind: api.Str, Str: "a b\n\t~"},
		{Kind: api.List},
		{Kind: api.Map},
	}
}

// Values are values that may be: plain ones, and lists and maps of them, and of these again.
func Values() []api.Value {
	plain := Plain()
	inner := slices.Concat(plain, around(plain))
	return slices.Concat(inner, around(inner[len(plain):]))
}

// around are lists and maps that have the values, one or two of them.
func around(l []api.Value) []api.Value {
	var out []api.Value
	for i, v := range l {
		next := l[(i+1)%len(l)]
		out = append(out, list(v), list(v, next), of(pair("a", v)), of(pair("a", next), pair("b", v)), of(pair("b", v), pair("c", next)))
	}
	return out
}

// Faulty are values that may not be: their kind is none, they have what it hasn't, or their pairs or texts aren't as they should be.
func Faulty() []api.Value {
	one := api.Value{Kind: api.Int, Int: 1}
	full := api.Value{Bool: true, Int: -3, Str: "x", List: []api.Value{one, {Kind: 9}}, Map: []api.Pair{pair("b", one), pair("a", one), pair("b", api.Value{})}}
	var out []api.Value
	for _, kind := range []int{math.MinInt, -1, api.Null, api.Bool, api.Int, api.Str, api.List, api.Map, api.Map + 1, math.MaxInt} {
		v := full
		v.Kind = kind
		out = append(out, v)
	}
	out = append(out,
		api.Value{Kind: api.Str, Str: "\x00\xff\xc3("},
		of(pair("", one), pair("", one)),
		of(pair("a\tb", one)),
		of(pair("c", one), pair("b", list(full)), pair("a", of(pair("\xff", one)))),
		list(out...),
	)
	return out
}

// Texts are all texts of so many of these letters, or fewer.
func Texts(most int, letters string) []string {
	l := []string{""}
	for from := 0; len(l[from]) < most; from++ {
		for i := range len(letters) {
			l = append(l, l[from]+letters[i:i+1])
		}
	}
	return l
}

// Nest is a value that stands in so many others, lists and maps by turns.
func Nest(around int, v api.Value) api.Value {
	for i := range around {
		if i%2 == 0 {
			v = list(v)
		} else {
			v = of(pair("a", v))
		}
	}
	return v
}

// Maps is a value that stands in so many maps, each under the key a.
func Maps(around int, v api.Value) api.Value {
	for range around {
		v = of(pair("a", v))
	}
	return v
}

func list(l ...api.Value) api.Value { return api.Value{Kind: api.List, List: slices.Clone(l)} }

func of(l ...api.Pair) api.Value { return api.Value{Kind: api.Map, Map: slices.Clone(l)} }

func pair(key string, v api.Value) api.Pair { return api.Pair{Key: key, Value: v} }
