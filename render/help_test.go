package render_test

import (
	"fmt"
	"strings"
	"testing"

	"mizzen/api"
	"mizzen/chart"
	"mizzen/render"
	"mizzen/tree"
	"mizzen/yaml"
)

func num(n int64) api.Value { return tree.Int(n) }

func str(s string) api.Value { return tree.Str(s) }

// of is a map of keys and values by turns.
func of(l ...any) api.Value {
	var pairs []api.Pair
	for i := 0; i < len(l); i += 2 {
		pairs = append(pairs, api.Pair{Key: l[i].(string), Value: l[i+1].(api.Value)})
	}
	return tree.Map(pairs...)
}

func xs(n int) string { return strings.Repeat("x", n) }

// told is anything as a text in which nil and empty lists are one.
func told(x any) string { return fmt.Sprintf("%+v", x) }

// written is the value that a text is read as.
func written(t *testing.T, s string) api.Value {
	t.Helper()
	v, e := yaml.Parse(s)
	if e != api.OK {
		t.Fatalf("Parse(%.200q): %d", s, e)
	}
	return v
}

// obj is the object of a kind and a name in the space default, with this body, which is written.
func obj(t *testing.T, kind, name, body string) api.Object {
	t.Helper()
	return api.Object{ID: api.ID{Kind: kind, Space: "default", Name: name}, Body: written(t, body)}
}

// doc is a document that is an object, written.
func doc(kind, name string) string { return "kind: " + kind + "\nmetadata: {name: " + name + "}\n" }

// plain are objects that have what doc writes alone, by kinds and names by turns.
func plain(t *testing.T, l ...string) []api.Object {
	t.Helper()
	var out []api.Object
	for i := 0; i < len(l); i += 2 {
		out = append(out, obj(t, l[i], l[i+1], doc(l[i], l[i+1])))
	}
	return out
}

// hooked is an object of a name, whose hook is written so.
func hooked(t *testing.T, name, hook string) api.Object {
	t.Helper()
	return obj(t, "Job", name, "{kind: Job, metadata: {name: "+name+", hook: "+hook+"}}")
}

// web is a chart with these templates, by names and texts by turns.
func web(t *testing.T, own string, l ...string) *chart.Chart {
	t.Helper()
	files := []api.File{{Name: "Chart.yaml", Text: "name: web\nversion: v1"}, {Name: "values.yaml", Text: own}}
	for i := 0; i < len(l); i += 2 {
		files = append(files, api.File{Name: "templates/" + l[i], Text: l[i+1]})
	}
	c, name, e := chart.New(files...)
	if e != api.OK {
		t.Fatalf("New with %.200q: %q, %d", l, name, e)
	}
	return c
}

// same tells, if objects aren't as they should be.
func same(t *testing.T, what string, l, want []api.Object) {
	t.Helper()
	if told(l) != told(want) {
		t.Errorf("%.300s: %.600s, want %.600s", what, told(l), told(want))
	}
}

// read tells, if a text isn't read as these objects.
func read(t *testing.T, s string, want ...api.Object) {
	t.Helper()
	l, e := render.Objects(s)
	if e != api.OK {
		t.Errorf("Objects(%.300q): %d", s, e)
	}
	same(t, "Objects of "+s, l, want)
}

// unread tells, if something else is wrong with a text, or if objects stand beside it.
func unread(t *testing.T, s string, want api.Errno) {
	t.Helper()
	if l, e := render.Objects(s); len(l) > 0 || e != want {
		t.Errorf("Objects(%.300q) = %.300s, %d, want %d", s, told(l), e, want)
	}
}

// gives tells, if a chart doesn't come to these objects, of its own values.
func gives(t *testing.T, c *chart.Chart, want ...api.Object) {
	t.Helper()
	l, name, e := render.Of(c, c.Values, "first")
	if name != "" || e != api.OK {
		t.Errorf("Of %.300s: %q, %d", told(*c), name, e)
	}
	same(t, "Of "+told(*c), l, want)
}

// fails tells, if something else is wrong with a chart, of its own values, or if objects stand beside it.
func fails(t *testing.T, c *chart.Chart, file string, want api.Errno) {
	t.Helper()
	if l, name, e := render.Of(c, c.Values, "first"); len(l) > 0 || name != file || e != want {
		t.Errorf("Of %.300s: %.300s, %q, %d, want %q, %d", told(*c), told(l), name, e, file, want)
	}
}

// splits tells, if other objects are asked at a time, or if others are no hooks.
func splits(t *testing.T, l []api.Object, when string, hooks, rest []api.Object) {
	t.Helper()
	asked, others := render.Split(l, when)
	same(t, "asked "+when, asked, hooks)
	same(t, "not asked", others, rest)
}
