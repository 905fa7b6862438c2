package chart_test

import (
	"fmt"
	"strings"
	"testing"

	"mizzen/api"
	"mizzen/chart"
	"mizzen/tree"
)

func num(n int64) api.Value { return tree.Int(n) }

func str(s string) api.Value { return tree.Str(s) }

// of is a map of keys and values by turns.
func of(l ...any) api.Value {
	var pairs []api.Pair
	for i := 0; i < len(l); i += 2 {
		pairs = append(pairs, api.Pair{Key: l[i].(string), Value: l[i+1].(api.Value)})
	}
	return tree.Map(pairs...)
}

// files are files of names and texts by turns.
func files(l ...string) []api.File {
	var out []api.File
	for i := 0; i < len(l); i += 2 {
		out = append(out, api.File{Name: l[i], Text: l[i+1]})
	}
	return out
}

const about = "name: web\nversion: v1\n"

// with are a good Chart.yaml, and files of names and texts by turns.
func with(l ...string) []api.File {
	return append(files("Chart.yaml", about), files(l...)...)
}

func xs(n int) string { return strings.Repeat("x", n) }

// told is anything as a text in which nil and empty lists are one.
func told(x any) string { return fmt.Sprintf("%+v", x) }

// seen is what a chart shows of itself.
func seen(c *chart.Chart) string {
	return told([]any{c.Name, c.Version, c.Values, c.Templates})
}

// made is the chart of files.
func made(t *testing.T, l ...api.File) *chart.Chart {
	t.Helper()
	c, name, e := chart.New(l...)
	if c == nil || name != "" || e != api.OK {
		t.Fatalf("New(%.300s) = %v, %q, %d", told(l), c, name, e)
	}
	return c
}

// refused tells, if something else is wrong with files, or with another one of them.
func refused(t *testing.T, l []api.File, wrong string, want api.Errno) {
	t.Helper()
	if c, name, e := chart.New(l...); c != nil || name != wrong || e != want {
		t.Errorf("New(%.300s) = %v, %.300q, %d, want %.300q, %d", told(l), c, name, e, wrong, want)
	}
}

// gives tells, if a chart doesn't come to these files.
func gives(t *testing.T, c *chart.Chart, dot api.Value, want ...string) {
	t.Helper()
	if l, name, e := c.Run(dot); told(l) != told(files(want...)) || name != "" || e != api.OK {
		t.Errorf("Run(%.200s) = %.300s, %q, %d, want %.300s", told(dot), told(l), name, e, told(files(want...)))
	}
}

// fails tells, if something else is wrong with a run, or with another template.
func fails(t *testing.T, c *chart.Chart, dot api.Value, wrong string, want api.Errno) {
	t.Helper()
	if l, name, e := c.Run(dot); len(l) > 0 || name != wrong || e != want {
		t.Errorf("Run(%.200s) = %.300s, %q, %d, want %q, %d", told(dot), told(l), name, e, wrong, want)
	}
}
