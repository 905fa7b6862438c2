package object_test

import (
	"fmt"
	"strings"
	"testing"

	"mizzen/api"
	"mizzen/object"
	"mizzen/tree"
	"mizzen/yaml"
)

func num(n int64) api.Value { return tree.Int(n) }

func str(s string) api.Value { return tree.Str(s) }

// of is a map of keys and values by turns.
func of(l ...any) api.Value {
	var pairs []api.Pair
	for i := 0; i < len(l); i += 2 {
		pairs = append(pairs, api.Pair{Key: l[i].(string), Value: l[i+1].(api.Value)})
	}
	return tree.Map(pairs...)
}

func id(kind, space, name string) api.ID { return api.ID{Kind: kind, Space: space, Name: name} }

func obj(kind, space, name string, body api.Value) api.Object {
	return api.Object{ID: id(kind, space, name), Body: body}
}

// doc is a document of a kind and a name, with more keys and values by turns.
func doc(kind, name string, more ...any) api.Value {
	return of(append([]any{"kind", str(kind), "metadata", of("name", str(name))}, more...)...)
}

// written is the value that a text is read as.
func written(t *testing.T, s string) api.Value {
	t.Helper()
	v, e := yaml.Parse(s)
	if e != api.OK {
		t.Fatalf("Parse(%.200q): %d", s, e)
	}
	return v
}

func xs(n int) string { return strings.Repeat("x", n) }

// told is anything as a text in which nil and empty lists are one.
func told(x any) string { return fmt.Sprintf("%+v", x) }

// is tells, if a document isn't the object of an ID.
func is(t *testing.T, v api.Value, want api.ID) {
	t.Helper()
	was := told(v)
	o, e := object.Of(v)
	if o.ID != want || told(o.Body) != was || e != api.OK {
		t.Errorf("Of(%.300s) = %.300s, %d, want %v", was, told(o), e, want)
	}
}

// none tells, if something else is wrong with a document, or if an object stands beside it.
func none(t *testing.T, v api.Value, want api.Errno) {
	t.Helper()
	if o, e := object.Of(v); told(o) != told(api.Object{}) || e != want {
		t.Errorf("Of(%.300s) = %.300s, %d, want %d", told(v), told(o), e, want)
	}
}

// unread tells, if a text is that of an ID.
func unread(t *testing.T, s string) {
	t.Helper()
	if got, e := object.Parse(s); got != (api.ID{}) || e != api.ErrIdent {
		t.Errorf("Parse(%.300q) = %.300v, %d", s, got, e)
	}
}
