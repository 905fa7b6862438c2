package eval_test

import (
	"fmt"
	"strings"
	"testing"

	"mizzen/api"
	"mizzen/eval"
	"mizzen/parse"
	"mizzen/tree"
)

func null() api.Value { return tree.Null() }

func yes() api.Value { return tree.Bool(true) }

func no() api.Value { return tree.Bool(false) }

func num(n int64) api.Value { return tree.Int(n) }

func str(s string) api.Value { return tree.Str(s) }

func list(l ...api.Value) api.Value { return tree.List(l...) }

// of is a map of keys and values by turns.
func of(l ...any) api.Value {
	var pairs []api.Pair
	for i := 0; i < len(l); i += 2 {
		pairs = append(pairs, api.Pair{Key: l[i].(string), Value: l[i+1].(api.Value)})
	}
	return tree.Map(pairs...)
}

func xs(n int) api.Value { return str(strings.Repeat("x", n)) }

// told is anything as a text in which nil and empty lists are one.
func told(x any) string { return fmt.Sprintf("%+v", x) }

// gives tells, if a template doesn't come to a text.
func gives(t *testing.T, s string, dot api.Value, want string) {
	t.Helper()
	if got, e := eval.Text(s, dot); got != want || e != api.OK {
		t.Errorf("Text(%.200q) = %.200q, %d, want %.200q", s, got, e, want)
	}
}

// fails tells, if something else is wrong with a template.
func fails(t *testing.T, s string, dot api.Value, wrong api.Errno) {
	t.Helper()
	if got, e := eval.Text(s, dot); got != "" || e != wrong {
		t.Errorf("Text(%.200q) = %.200q, %d, want error %d", s, got, e, wrong)
	}
}

// read are a template's nodes, and what they define.
func read(t *testing.T, s string) (eval.Defs, []parse.Node) {
	t.Helper()
	l, e := parse.Parse(s)
	if e != api.OK {
		t.Fatalf("Parse(%.200q): %d", s, e)
	}
	d, e := eval.Collect(nil, l)
	if e != api.OK {
		t.Fatalf("Collect(%.200q): %d", s, e)
	}
	return d, l
}
