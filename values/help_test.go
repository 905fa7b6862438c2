package values_test

import (
	"fmt"
	"strings"
	"testing"

	"mizzen/api"
	"mizzen/chart"
	"mizzen/tree"
	"mizzen/values"
	"mizzen/yaml"
)

func num(n int64) api.Value { return tree.Int(n) }

func str(s string) api.Value { return tree.Str(s) }

// of is a map of keys and values by turns.
func of(l ...any) api.Value {
	var pairs []api.Pair
	for i := 0; i < len(l); i += 2 {
		pairs = append(pairs, api.Pair{Key: l[i].(string), Value: l[i+1].(api.Value)})
	}
	return tree.Map(pairs...)
}

func xs(n int) string { return strings.Repeat("x", n) }

// written is the value that a text is read as.
func written(t *testing.T, s string) api.Value {
	t.Helper()
	v, e := yaml.Parse(s)
	if e != api.OK {
		t.Fatalf("Parse(%.200q): %d", s, e)
	}
	return v
}

// web is a chart with these values of its own.
func web(t *testing.T, own string) *chart.Chart {
	t.Helper()
	c, name, e := chart.New(api.File{Name: "Chart.yaml", Text: "name: web\nversion: v1"}, api.File{Name: "values.yaml", Text: own})
	if e != api.OK {
		t.Fatalf("New with %.200q: %q, %d", own, name, e)
	}
	return c
}

// told is anything as a text in which nil and empty lists are one.
func told(x any) string { return fmt.Sprintf("%+v", x) }

// is tells, if a value isn't as it should be, or if something is wrong.
func is(t *testing.T, what string, v api.Value, e api.Errno, want api.Value) {
	t.Helper()
	if told(v) != told(want) || e != api.OK {
		t.Errorf("%.300s: %.300s, %d, want %.300s", what, told(v), e, told(want))
	}
}

// wrong tells, if something else is wrong, or if a value stands beside it.
func wrong(t *testing.T, what string, v api.Value, e, want api.Errno) {
	t.Helper()
	if told(v) != told(api.Value{}) || e != want {
		t.Errorf("%.300s: %.300s, %d, want %d", what, told(v), e, want)
	}
}

// sets tells, if a value with a set laid over it isn't that of a text.
func sets(t *testing.T, v, s, want string) {
	t.Helper()
	got, e := values.Set(written(t, v), s)
	is(t, "Set of "+v+" by "+s, got, e, written(t, want))
}

// layers tells, if a chart's values with texts and sets over them aren't that of a text.
func layers(t *testing.T, own string, texts, sets []string, want string) {
	t.Helper()
	got, e := values.Of(web(t, own), texts, sets)
	is(t, "Of "+own+" with "+told(texts)+", "+told(sets), got, e, written(t, want))
}

// fails tells, if something else is wrong with texts and sets.
func fails(t *testing.T, own string, texts, sets []string, want api.Errno) {
	t.Helper()
	got, e := values.Of(web(t, own), texts, sets)
	wrong(t, "Of "+own+" with "+told(texts)+", "+told(sets), got, e, want)
}
