package tree_test

import (
	"fmt"
	"math"
	"slices"
	"strings"
	"testing"

	"mizzen/api"
	"mizzen/sample"
	"mizzen/tree"
)

// dump shows all that a value has; nil and empty lists look the same.
func dump(x any) string { return fmt.Sprintf("%+v", x) }

func want(t *testing.T, what string, got, wanted any) {
	t.Helper()
	if dump(got) != dump(wanted) {
		t.Errorf("%s: got %.300s, want %.300s", what, dump(got), dump(wanted))
	}
}

func pair(key string, v api.Value) api.Pair { return api.Pair{Key: key, Value: v} }

func one(n int64) api.Value { return api.Value{Kind: api.Int, Int: n} }

func TestMakers(t *testing.T) {
	want(t, "Null", tree.Null(), api.Value{})
	want(t, "Bool", tree.Bool(true), api.Value{Kind: 1, Bool: true})
	want(t, "Bool", tree.Bool(false), api.Value{Kind: 1})
	want(t, "Int", tree.Int(math.MinInt64), api.Value{Kind: 2, Int: math.MinInt64})
	want(t, "Int", tree.Int(0), api.Value{Kind: 2})
	want(t, "Str", tree.Str("a\xff"), api.Value{Kind: 3, Str: "a\xff"})
	want(t, "Str", tree.Str(""), api.Value{Kind: 3})
	want(t, "List", tree.List(), api.Value{Kind: 4})
	want(t, "List", tree.List(one(2), one(1)), api.Value{Kind: 4, List: []api.Value{one(2), one(1)}})
	want(t, "Map", tree.Map(), api.Value{Kind: 5})
	want(t, "Map", tree.Map(pair("k", one(1))), api.Value{Kind: 5, Map: []api.Pair{pair("k", one(1))}})
}

func TestMapSortsAndTakesTheLast(t *testing.T) {
	got := tree.Map(pair("b", one(1)), pair("a", one(2)), pair("b", one(3)))
	want(t, "two of one key", got, api.Value{Kind: 5, Map: []api.Pair{pair("a", one(2)), pair("b", one(3))}})

	keys := []string{"", "\x00", "A", "Z", "_", "a", "a\n", "a0", "aa", "b", "\x80", "\xc3\xa9", "\xff"}
	var given []api.Pair
	for i := range 40 * len(keys) {
		given = append(given, pair(keys[i*7%len(keys)], one(int64(i))))
	}
	m := tree.Map(given...)
	if len(m.Map) != len(keys) {
		t.Fatalf("%d pairs, want %d", len(m.Map), len(keys))
	}
	for i, p := range m.Map {
		last := given[len(given)-1]
		for _, g := range given {
			if g.Key == keys[i] {
				last = g
			}
		}
		want(t, "pair by byte order", p, last)
	}
}

func TestClone(t *testing.T) {
	for _, v := range slices.Concat(sample.Values(), sample.Faulty()) {
		before := dump(v)
		c := tree.Clone(v)
		want(t, "Clone", c, v)
		sample.Spoil(c)
		want(t, "what was cloned, with the clone spoiled", v, verbatim(before))
	}
}

// verbatim is shown by dump as it is.
type verbatim string

func (s verbatim) Format(f fmt.State, _ rune) { f.Write([]byte(s)) }

func TestSizeAndDepth(t *testing.T) {
	junk := api.Value{Kind: api.Int, Str: "x", List: []api.Value{one(1), one(2)}, Map: []api.Pair{pair("a", sample.Nest(3, one(1)))}}
	for _, c := range []struct {
		v           api.Value
		size, depth int
	}{
		{tree.Null(), 1, 1},
		{tree.Int(5), 1, 1},
		{tree.Str("abc"), 1, 1},
		{tree.List(), 1, 1},
		{tree.Map(), 1, 1},
		{tree.List(one(1)), 2, 2},
		{tree.List(one(1), one(2), one(3)), 4, 2},
		{tree.Map(pair("a", one(1)), pair("b", tree.Null())), 3, 2},
		{tree.List(tree.List(), tree.List(tree.Map(pair("a", one(1)))), one(1)), 6, 4},
		{tree.Map(pair("a", tree.List(one(1), one(1))), pair("b", one(1))), 5, 3},
		{sample.Nest(99, one(1)), 100, 100},
		{junk, 7, 5},
	} {
		if s, d := tree.Size(c.v), tree.Depth(c.v); s != c.size || d != c.depth {
			t.Errorf("%.200s: size %d, depth %d, want %d, %d", dump(c.v), s, d, c.size, c.depth)
		}
	}
}

func TestTextAndKey(t *testing.T) {
	for c := range 256 {
		s := "a" + string([]byte{byte(c)}) + "z"
		printable := c >= 0x20 && c <= 0x7e
		if got := tree.Text(s); got != (printable || c == '\t' || c == '\n') {
			t.Errorf("Text with byte %d: %v", c, got)
		}
		if got := tree.Key(s); got != printable {
			t.Errorf("Key with byte %d: %v", c, got)
		}
	}
	for _, c := range []struct {
		s         string
		text, key bool
	}{
		{"", true, false},
		{" ", true, true},
		{"\n", true, false},
		{"é", false, false},
		{strings.Repeat("k", 256), true, true},
		{strings.Repeat("k", 257), true, false},
		{strings.Repeat("\t", 65536), true, false},
		{strings.Repeat("x", 65536), true, false},
		{strings.Repeat("x", 65537), false, false},
		{strings.Repeat("x", 65535) + "\r", false, false},
	} {
		if tree.Text(c.s) != c.text || tree.Key(c.s) != c.key {
			t.Errorf("%.20q of %d bytes: Text %v, Key %v", c.s, len(c.s), tree.Text(c.s), tree.Key(c.s))
		}
	}
}

func TestTruth(t *testing.T) {
	for _, v := range []api.Value{tree.Null(), tree.Bool(false), tree.Int(0), tree.Str(""), tree.List(), tree.Map()} {
		if tree.Truth(v) {
			t.Errorf("true: %s", dump(v))
		}
	}
	for _, v := range []api.Value{
		tree.Bool(true), tree.Int(1), tree.Int(-1), tree.Int(math.MinInt64), tree.Str("0"), tree.Str(" "), tree.Str("false"),
		tree.List(tree.Null()), tree.List(tree.List()), tree.Map(pair("a", tree.Null())),
	} {
		if !tree.Truth(v) {
			t.Errorf("not true: %s", dump(v))
		}
	}
}
