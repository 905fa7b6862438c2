package funcs_test

import (
	"fmt"
	"slices"
	"strings"
	"testing"

	"mizzen/api"
	"mizzen/funcs"
	"mizzen/tree"
)

func null() api.Value { return tree.Null() }

func yes() api.Value { return tree.Bool(true) }

func no() api.Value { return tree.Bool(false) }

func num(n int64) api.Value { return tree.Int(n) }

func str(s string) api.Value { return tree.Str(s) }

func list(l ...api.Value) api.Value { return tree.List(l...) }

// of is a map of keys and values by turns.
func of(l ...any) api.Value {
	var pairs []api.Pair
	for i := 0; i < len(l); i += 2 {
		pairs = append(pairs, api.Pair{Key: l[i].(string), Value: l[i+1].(api.Value)})
	}
	return tree.Map(pairs...)
}

func args(l ...api.Value) []api.Value { return l }

func dump(l ...api.Value) string {
	s := fmt.Sprintf("%+v", l)
	return s[:min(len(s), 400)]
}

// same says whether two values are one to their last field.
func same(a, b api.Value) bool {
	return a.Kind == b.Kind && a.Bool == b.Bool && a.Int == b.Int && a.Str == b.Str &&
		slices.EqualFunc(a.List, b.List, same) &&
		slices.EqualFunc(a.Map, b.Map, func(p, q api.Pair) bool { return p.Key == q.Key && same(p.Value, q.Value) })
}

// want tells, if a function doesn't answer so.
func want(t *testing.T, name string, l []api.Value, v api.Value, e api.Errno) {
	t.Helper()
	got, wrong := funcs.Call(name, l...)
	if !same(got, v) || wrong != e {
		t.Errorf("%s of %s = %s, %d, want %s, %d", name, dump(l...), dump(got), wrong, dump(v), e)
	}
	var table funcs.Table
	if by, too := table.Call(name, l...); !same(by, got) || too != wrong {
		t.Errorf("%s of %s by a table: %s, %d", name, dump(l...), dump(by), too)
	}
}

// gives tells, if a function doesn't answer this value.
func gives(t *testing.T, v api.Value, name string, l ...api.Value) {
	t.Helper()
	want(t, name, l, v, api.OK)
}

// fails tells, if a function doesn't answer this error.
func fails(t *testing.T, e api.Errno, name string, l ...api.Value) {
	t.Helper()
	want(t, name, l, api.Value{}, e)
}

func names() []string {
	return []string{
		"add", "and", "default", "dict", "eq", "get", "has", "indent", "int", "join", "keys", "len", "list", "lower", "lt", "mul",
		"ne", "nindent", "not", "or", "print", "quote", "required", "sub", "ternary", "toString", "toYaml", "trim", "upper",
	}
}

func TestNames(t *testing.T) {
	if l := funcs.Names(); !slices.Equal(l, names()) || !slices.IsSorted(l) {
		t.Errorf("Names() = %q", l)
	}
	for _, name := range names() {
		if !funcs.Has(name) {
			t.Errorf("there is no %s", name)
		}
	}
	spoilt := funcs.Names()
	for i := range spoilt {
		spoilt[i] = "spoilt"
	}
	if l := funcs.Names(); !slices.Equal(l, names()) || funcs.Has("spoilt") || !funcs.Has("add") {
		t.Errorf("Names() behind a change: %q", l)
	}
}

func TestNoSuchFunction(t *testing.T) {
	for _, name := range []string{"", "nope", "Add", "ADD", "add ", " add", "ad", "addd", "tostring", "toyaml", "include", "if", "nil", "append", "\x00", "é", strings.Repeat("add", 1<<16)} {
		if funcs.Has(name) {
			t.Errorf("there is %q", name)
		}
		fails(t, api.ErrName, name)
		fails(t, api.ErrName, name, num(1), num(2))
	}
}

func TestHowManyArguments(t *testing.T) {
	many := 1 << 10
	takes := map[string][2]int{"and": {1, many}, "or": {1, many}, "print": {0, many}, "list": {0, many}, "dict": {0, many}, "ternary": {3, 3}}
	for _, name := range []string{"upper", "lower", "trim", "quote", "toString", "toYaml", "int", "not", "len", "keys"} {
		takes[name] = [2]int{1, 1}
	}
	for _, name := range []string{"indent", "nindent", "join", "add", "sub", "mul", "eq", "ne", "lt", "default", "required", "get", "has"} {
		takes[name] = [2]int{2, 2}
	}
	for _, name := range names() {
		for _, n := range []int{0, 1, 2, 3, 4, 5, many} {
			_, e := funcs.Call(name, slices.Repeat(args(num(1)), n)...)
			if most := takes[name]; (e == api.ErrCall) != (n < most[0] || n > most[1]) || e == api.ErrName {
				t.Errorf("%s of %d arguments: %d", name, n, e)
			}
		}
	}
}

func TestHowManyAheadOfTheirKinds(t *testing.T) {
	for _, name := range []string{"add", "join", "indent", "get", "has"} {
		fails(t, api.ErrCall, name, str("x"))
		fails(t, api.ErrCall, name, str("x"), no(), null())
	}
	fails(t, api.ErrCall, "required", null())
	fails(t, api.ErrCall, "len")
	fails(t, api.ErrCall, "len", num(1), num(2))
	fails(t, api.ErrCall, "keys", str("x"), of())
	fails(t, api.ErrCall, "indent", num(65), str("x"), str("x"))
}

// called is the text that a function answers.
func called(name string, l []api.Value) (string, api.Errno) {
	v, e := funcs.Call(name, l...)
	return v.Str, e
}
