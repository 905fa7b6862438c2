package funcs_test

import (
	"math/rand/v2"
	"slices"
	"testing"

	"mizzen/api"
	"mizzen/funcs"
	"mizzen/sample"
)

// wantCounts tells, if a table hasn't counted so.
func wantCounts(t *testing.T, table *funcs.Table, counts map[string]int) {
	t.Helper()
	var used []string
	for _, name := range append(names(), "nope", "", "include") {
		if n := table.Uses(name); n != counts[name] {
			t.Errorf("%s was used %d times, not %d", name, counts[name], n)
		}
		if counts[name] > 0 {
			used = append(used, name)
		}
	}
	if l := table.Used(); !slices.Equal(l, used) {
		t.Errorf("Used() = %q, want %q", l, used)
	}
}

func TestATableCountsWhatIsAnswered(t *testing.T) {
	var table funcs.Table
	counts := map[string]int{}
	wantCounts(t, &table, counts)
	for _, c := range []struct {
		name string
		l    []api.Value
		ok   bool
	}{
		{"upper", args(str("a")), true}, {"add", args(num(1), num(2)), true}, {"upper", args(num(1)), true},
		{"nope", nil, false}, {"", nil, false}, {"include", args(str("a"), null()), false},
		{"add", args(num(1)), false}, {"sub", args(num(1), str("a")), false}, {"required", args(str("a"), null()), false},
		{"mul", args(num(1<<62), num(2)), false}, {"quote", args(xs(api.MaxText)), false}, {"list", args(sample.Nest(15, null())), false},
		{"print", nil, true}, {"default", args(null(), null()), true}, {"list", nil, true}, {"add", args(num(1), num(2)), true}, {"add", args(num(1), num(2)), true},
	} {
		v, e := table.Call(c.name, c.l...)
		if alone, too := funcs.Call(c.name, c.l...); !same(v, alone) || e != too || (e == api.OK) != c.ok {
			t.Errorf("%s: %s, %d, and alone %s, %d", c.name, dump(v), e, dump(alone), too)
		}
		if c.ok {
			counts[c.name]++
		}
		wantCounts(t, &table, counts)
	}
}

func TestTablesCountForThemselves(t *testing.T) {
	a, b := new(funcs.Table), &funcs.Table{}
	for range 3 {
		a.Call("not", null())
	}
	b.Call("print")
	funcs.Call("len", str(""))
	wantCounts(t, a, map[string]int{"not": 3})
	wantCounts(t, b, map[string]int{"print": 1})
	wantCounts(t, new(funcs.Table), nil)
	spoilt := a.Used()
	spoilt[0] = "spoilt"
	wantCounts(t, a, map[string]int{"not": 3})
}

func TestATableThatIsNil(t *testing.T) {
	var table *funcs.Table
	if v, e := table.Call("add", num(1), num(2)); e != api.OK || !same(v, num(3)) {
		t.Errorf("add: %s, %d", dump(v), e)
	}
	for name, e := range map[string]api.Errno{"nope": api.ErrName, "add": api.ErrCall, "dict": api.ErrArg} {
		if v, wrong := table.Call(name, num(1)); wrong != e || !same(v, api.Value{}) {
			t.Errorf("%s: %s, %d", name, dump(v), wrong)
		}
	}
	if table.Uses("add") != 0 || table.Uses("nope") != 0 || len(table.Used()) != 0 {
		t.Error("a nil table has counted")
	}
}

func TestATableOfManyCalls(t *testing.T) {
	r := rand.New(rand.NewPCG(8, 3))
	from := slices.Concat(sample.Values()[:40], args(num(2), str("a"), str("12")))
	var table funcs.Table
	counts := map[string]int{}
	for range 20000 {
		name := append(names(), "nope")[r.IntN(len(names())+1)]
		l := some(r, from, r.IntN(4))
		v, e := table.Call(name, l...)
		if alone, too := funcs.Call(name, l...); !same(v, alone) || e != too {
			t.Fatalf("%s of %s by a table: %s, %d", name, dump(l...), dump(v), e)
		}
		if e == api.OK {
			counts[name]++
		}
	}
	wantCounts(t, &table, counts)
}
