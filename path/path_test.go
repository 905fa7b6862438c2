package path_test

import (
	"fmt"
	"slices"
	"strings"
	"testing"

	"mizzen/api"
	"mizzen/path"
	"mizzen/sample"
	"mizzen/tree"
)

// dump shows all that a value has; nil and empty lists look the same.
func dump(x any) string { return fmt.Sprintf("%+v", x) }

func want(t *testing.T, what string, got, wanted any) {
	t.Helper()
	if dump(got) != dump(wanted) {
		t.Errorf("%s: got %.300s, want %.300s", what, dump(got), dump(wanted))
	}
}

func pair(key string, v api.Value) api.Pair { return api.Pair{Key: key, Value: v} }

func one(n int64) api.Value { return tree.Int(n) }

// paths are all of up to three steps of a few keys.
func paths() [][]string {
	l := [][]string{nil}
	for from := 0; len(l[from]) < 3; from++ {
		for _, key := range []string{"a", "b", "c"} {
			l = append(l, append(slices.Clone(l[from]), key))
		}
	}
	return l
}

// values are some that may be, and some more with maps in each other.
func values() []api.Value {
	m := tree.Map
	return append(sample.Values(),
		m(pair("a", m(pair("b", one(1)), pair("c", m(pair("a", one(2)), pair("d", m()))))), pair("x", one(3))),
		m(pair("a", m(pair("a", m(pair("a", one(1))))))),
		m(pair("a", m(pair("b", m(pair("c", one(1)))))), pair("b", m(pair("c", m()))), pair("c", m(pair("b", m(pair("a", m(pair("z", one(1))))))))),
		m(pair("b", m(pair("a", tree.List(m(pair("c", one(1)))))))),
	)
}

func TestParse(t *testing.T) {
	long := strings.Repeat("w", 256)
	for _, c := range []struct {
		s     string
		steps []string
		e     api.Errno
	}{
		{"a", []string{"a"}, api.OK},
		{"a.b", []string{"a", "b"}, api.OK},
		{"A-_9.0.-._.zZ", []string{"A-_9", "0", "-", "_", "zZ"}, api.OK},
		{long + "." + long, []string{long, long}, api.OK},
		{strings.Repeat("a.", 14) + "a", slices.Repeat([]string{"a"}, 15), api.OK},
		{strings.Repeat("a.", 15) + "a", nil, api.ErrDeep},
		{strings.Repeat("a.", 16) + "a", nil, api.ErrDeep},
		{strings.Repeat(".", 14), nil, api.ErrForm},
		{strings.Repeat(".", 15), nil, api.ErrDeep},
		{strings.Repeat(".", 1<<20), nil, api.ErrDeep},
		{strings.Repeat("a.", 14) + "?", nil, api.ErrForm},
		{strings.Repeat("?.", 15) + "a", nil, api.ErrDeep},
		{"", nil, api.ErrForm},
		{".", nil, api.ErrForm},
		{"a..b", nil, api.ErrForm},
		{".a", nil, api.ErrForm},
		{"a.", nil, api.ErrForm},
		{" a", nil, api.ErrForm},
		{"a.b c", nil, api.ErrForm},
		{"é", nil, api.ErrForm},
		{"a\xff", nil, api.ErrForm},
		{long + "w", nil, api.ErrForm},
		{"a." + long + "w", nil, api.ErrForm},
	} {
		steps, e := path.Parse(c.s)
		if e != c.e || !slices.Equal(steps, c.steps) {
			t.Errorf("Parse(%.40q): %.80q, %d", c.s, steps, e)
		}
	}
}

const wordBytes = "ABCDEFGHIJKLMNOPQRSTUVWXYZabcdefghijklmnopqrstuvwxyz0123456789_-"

func TestWordsByteByByte(t *testing.T) {
	for c := range 256 {
		step := "a" + string([]byte{byte(c)})
		may := strings.IndexByte(wordBytes, byte(c)) >= 0
		if _, e := path.Parse(step); (e == api.OK) != may {
			t.Errorf("Parse of a word with byte %d: %d", c, e)
		}
		if got := path.Print(step, "b"); (got == step+".b") != may || !may && got != "" {
			t.Errorf("Print of a word with byte %d: %q", c, got)
		}
	}
}

func TestPrint(t *testing.T) {
	long := strings.Repeat("w", 256)
	for _, c := range []struct {
		steps []string
		s     string
	}{
		{nil, ""},
		{[]string{"a"}, "a"},
		{[]string{"a", "b-1", "_"}, "a.b-1._"},
		{[]string{long}, long},
		{[]string{long + "w"}, ""},
		{[]string{""}, ""},
		{[]string{"a", ""}, ""},
		{[]string{"a.b"}, ""},
		{[]string{"a", "b c", "d"}, ""},
		{[]string{"a\xff"}, ""},
		{[]string{"é"}, ""},
		{slices.Repeat([]string{"a"}, 20), strings.Repeat("a.", 19) + "a"},
	} {
		if got := path.Print(c.steps...); got != c.s {
			t.Errorf("Print(%.40q): %.40q", c.steps, got)
		}
	}
}

func TestWhatIsPrintedIsParsed(t *testing.T) {
	for n := 1; n <= 15; n++ {
		steps := make([]string, n)
		for i := range steps {
			steps[i] = wordBytes[i : 1+i*4]
		}
		got, e := path.Parse(path.Print(steps...))
		if e != api.OK || !slices.Equal(got, steps) {
			t.Errorf("%q: %q, %d", steps, got, e)
		}
	}
}

func TestBegins(t *testing.T) {
	for _, c := range []struct {
		steps, with []string
		begins      bool
	}{
		{nil, nil, true},
		{nil, []string{}, true},
		{[]string{"a"}, nil, true},
		{nil, []string{"a"}, false},
		{[]string{"a"}, []string{"a"}, true},
		{[]string{"a", "b"}, []string{"a"}, true},
		{[]string{"a", "b"}, []string{"a", "b"}, true},
		{[]string{"a"}, []string{"a", "b"}, false},
		{[]string{"ab"}, []string{"a"}, false},
		{[]string{"a", "b"}, []string{"b"}, false},
		{[]string{"a", "b", "c"}, []string{"a", "c"}, false},
		{[]string{"", "\xff"}, []string{""}, true},
		{[]string{""}, []string{"", ""}, false},
	} {
		if got := path.Begins(c.steps, c.with); got != c.begins {
			t.Errorf("Begins(%q, %q): %v", c.steps, c.with, got)
		}
	}
}

func TestGet(t *testing.T) {
	v := tree.Map(
		pair("a", tree.Map(pair("b", tree.Null()), pair("c", tree.List(tree.Map(pair("d", one(1))))))),
		pair("x.y", one(2)),
	)
	for _, c := range []struct {
		steps []string
		x     api.Value
		ok    bool
	}{
		{nil, v, true},
		{[]string{"a", "b"}, tree.Null(), true},
		{[]string{"a", "c"}, tree.List(tree.Map(pair("d", one(1)))), true},
		{[]string{"x.y"}, one(2), true},
		{[]string{"x", "y"}, api.Value{}, false},
		{[]string{"b"}, api.Value{}, false},
		{[]string{"a", "d"}, api.Value{}, false},
		{[]string{"a", "b", "c"}, api.Value{}, false},
		{[]string{"a", "c", "d"}, api.Value{}, false},
		{[]string{"a", "c", "0"}, api.Value{}, false},
	} {
		x, ok := path.Get(v, c.steps...)
		want(t, "Get", x, c.x)
		want(t, "Get", ok, c.ok)
	}
	x, ok := path.Get(one(3))
	want(t, "Get of no step", x, one(3))
	want(t, "Get of no step", ok, true)
	if _, ok := path.Get(api.Value{Kind: api.Str, Map: v.Map}, "a"); ok {
		t.Error("Get in what is no map")
	}
}
