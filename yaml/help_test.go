package yaml_test

import (
	"testing"

	"mizzen/api"
	"mizzen/tree"
	"mizzen/yaml"
)

func null() api.Value { return tree.Null() }

func one(n int64) api.Value { return tree.Int(n) }

func str(s string) api.Value { return tree.Str(s) }

func list(l ...api.Value) api.Value { return tree.List(l...) }

// of is the map of keys and values by turns.
func of(l ...any) api.Value {
	var pairs []api.Pair
	for i := 0; i < len(l); i += 2 {
		pairs = append(pairs, api.Pair{Key: l[i].(string), Value: l[i+1].(api.Value)})
	}
	return tree.Map(pairs...)
}

// wantRead tells, if a text isn't read as a value.
func wantRead(t *testing.T, s string, v api.Value) {
	t.Helper()
	got, e := yaml.Parse(s)
	if e != api.OK || !tree.Same(got, v) || tree.Check(got) != api.OK {
		t.Errorf("Parse(%.200q) = %.200v, %d, want %.200v", s, got, e, v)
	}
}

// wantWrong tells, if something else is wrong with a text.
func wantWrong(t *testing.T, s string, wrong api.Errno) {
	t.Helper()
	got, e := yaml.Parse(s)
	if e != wrong || tree.Check(got) != api.OK || !tree.Same(got, null()) {
		t.Errorf("Parse(%.200q) = %.200v, %d, want error %d", s, got, e, wrong)
	}
}
