package eval_test

import (
	"errors"
	"math/rand/v2"
	"slices"
	"strconv"
	"strings"
	"testing"
	"text/template"

	"mizzen/api"
	"mizzen/eval"
	"mizzen/funcs"
	"mizzen/scalar"
	"mizzen/tree"
)

// Templates are run beside Go's own, which have the same ifs, withs, ranges and variables. Paths, functions and texts of values are theirs by calls, as they aren't the same.

// both is one thing in both languages.
type both struct{ ours, theirs string }

// writer makes templates, by turns that hang on nothing but its seed; it knows the variables, innermost last, and how many templates may be included.
type writer struct {
	*rand.Rand
	vars     []string
	includes int
}

func pick[T any](w *writer, l ...T) T { return l[w.IntN(len(l))] }

// expr is an expression in brackets, at most so deep.
func (w *writer) expr(most int) both {
	switch kind := w.IntN(8); {
	case kind == 0:
		s := pick(w, "0", "1", "2", `""`, `"a"`, "true", "false")
		return both{s, s}
	case kind == 1:
		return both{"nil", "(none)"}
	case kind < 4 && len(w.vars) > 0:
		name := pick(w, w.vars...)
		return w.steps(both{"$" + name, "$" + name})
	case kind < 6 || most == 1:
		return w.steps(both{"", "."})
	case kind == 6 && w.includes > 0:
		name := `"d` + strconv.Itoa(w.IntN(w.includes)) + `"`
		x := w.expr(most - 1)
		return both{"(include " + name + " " + x.ours + ")", "(include " + name + " " + x.theirs + ")"}
	}
	return w.call(most)
}

func (w *writer) call(most int) both {
	name := pick(w, "eq", "not", "and", "or", "default", "ternary", "print", "list", "list", "toString", "dict", "get", "keys", "add", "len")
	x := both{"(" + name, `(fn "` + name + `"`}
	n := map[string]int{"eq": 2, "not": 1, "default": 2, "ternary": 3, "toString": 1, "get": 2, "keys": 1, "add": 2, "len": 1}[name]
	if n == 0 {
		n = 1 + w.IntN(3)
	}
	for i := range n {
		arg := w.expr(most - 1)
		if name == "dict" && i == 0 {
			arg = both{`"a" ` + arg.ours, `"a" ` + arg.theirs}
			n = 1
		}
		x.ours += " " + arg.ours
		x.theirs += " " + arg.theirs
		if name == "dict" {
			break
		}
	}
	return both{x.ours + ")", x.theirs + ")"}
}

func (w *writer) steps(x both) both {
	theirs := "(at " + x.theirs
	for range w.IntN(3) {
		step := pick(w, "a", "b", "l", "m")
		x.ours += "." + step
		theirs += ` "` + step + `"`
	}
	if x.ours == "" {
		x.ours = "."
	}
	return both{x.ours, theirs + ")"}
}

// nodes are some nodes, at most so deep; their variables are gone behind them.
func (w *writer) nodes(most int) both {
	known := len(w.vars)
	var x both
	for range 1 + w.IntN(4) {
		n := w.node(most)
		x.ours += n.ours
		x.theirs += n.theirs
	}
	w.vars = w.vars[:known]
	return x
}

func (w *writer) node(most int) both {
	kind := w.IntN(9)
	if most == 1 {
		kind %= 4
	}
	x := w.expr(3)
	switch kind {
	case 0:
		return both{"x ", "x "}
	case 1, 2:
		return both{"{{ " + x.ours + " }}", "{{ show " + x.theirs + " }}"}
	case 3:
		name := pick(w, "x", "y", "z")
		w.vars = append(w.vars, name)
		return both{"{{ $" + name + " := " + x.ours + " }}", "{{ $" + name + " := " + x.theirs + " }}"}
	case 4, 5:
		return w.block("if ", "", x, most)
	case 6:
		return w.block("with ", "", x, most)
	}
	x.theirs = "(seq " + x.theirs + ")"
	switch kind = w.IntN(3); kind {
	case 0:
		return w.block("range ", "", x, most)
	case 1:
		return w.block("range ", pick(w, "$x", "$y"), x, most)
	}
	return w.block("range ", pick(w, "$x", "$y")+", "+pick(w, "$x", "$y"), x, most)
}

// block is a block with its variables, if it has any. No variable of their names stands in its else, where Go's have the range's own value.
func (w *writer) block(word, vars string, x both, most int) both {
	head := word
	known := len(w.vars)
	if vars != "" {
		head += vars + " := "
		for _, name := range strings.Split(vars, ", ") {
			w.vars = append(w.vars, name[1:])
		}
	}
	body := w.nodes(most - 1)
	w.vars = w.vars[:known]
	out := both{"{{ " + head + x.ours + " }}" + body.ours, "{{ " + head + x.theirs + " }}" + body.theirs}
	if w.IntN(2) == 0 {
		known := w.vars
		w.vars = slices.DeleteFunc(slices.Clone(known), func(name string) bool { return strings.Contains(vars, "$"+name) })
		behind := w.nodes(most - 1)
		w.vars = known
		out.ours += "{{ else }}" + behind.ours
		out.theirs += "{{ else }}" + behind.theirs
	}
	return both{out.ours + "{{ end }}", out.theirs + "{{ end }}"}
}

// template has up to three templates in it; each may include those ahead.
func (w *writer) template() both {
	var x both
	w.includes = 0
	for i := range w.IntN(4) {
		n := w.nodes(3)
		head := `{{ define "d` + strconv.Itoa(i) + `" }}`
		x.ours += head + n.ours + "{{ end }}"
		x.theirs += head + n.theirs + "{{ end }}"
		w.includes++
	}
	n := w.nodes(4)
	return both{x.ours + n.ours, x.theirs + n.theirs}
}

func native(v api.Value) any {
	switch v.Kind {
	case api.Bool:
		return v.Bool
	case api.Int:
		return v.Int
	case api.Str:
		return v.Str
	case api.List:
		l := []any{}
		for _, x := range v.List {
			l = append(l, native(x))
		}
		return l
	case api.Map:
		m := map[string]any{}
		for _, p := range v.Map {
			m[p.Key] = native(p.Value)
		}
		return m
	}
	return nil
}

func valued(x any) api.Value {
	switch x := x.(type) {
	case bool:
		return tree.Bool(x)
	case int:
		return tree.Int(int64(x))
	case int64:
		return tree.Int(x)
	case string:
		return tree.Str(x)
	case []any:
		var l []api.Value
		for _, y := range x {
			l = append(l, valued(y))
		}
		return tree.List(l...)
	case map[string]any:
		v := tree.Map()
		for k, y := range x {
			v = tree.Put(v, k, valued(y))
		}
		return v
	}
	return tree.Null()
}

var errWrong = errors.New("wrong")

// theirs is what Go's own come to.
func theirs(s string, dot api.Value) (string, error) {
	all := template.New("")
	all.Funcs(template.FuncMap{
		"none": func() any { return nil },
		"show": func(x any) string { return scalar.Text(valued(x)) },
		"at": func(x any, steps ...string) any {
			for _, step := range steps {
				m, _ := x.(map[string]any)
				x = m[step]
			}
			return x
		},
		"seq": func(x any) (any, error) {
			switch x.(type) {
			case nil, []any, map[string]any:
				return x, nil
			}
			return nil, errWrong
		},
		"fn": func(name string, l ...any) (any, error) {
			v, e := funcs.Call(name, valued(l).List...)
			if e != api.OK {
				return nil, errWrong
			}
			return native(v), nil
		},
		"include": func(name string, x any) (string, error) {
			var out strings.Builder
			err := all.ExecuteTemplate(&out, name, x)
			return out.String(), err
		},
	})
	if _, err := all.Parse(s); err != nil {
		return "", err
	}
	var out strings.Builder
	if err := all.Execute(&out, native(dot)); err != nil {
		if !errors.Is(err, errWrong) {
			return "", err
		}
		return "", errWrong
	}
	return out.String(), nil
}

func dots() []api.Value {
	l := list(num(1), str("b"), list(num(2), null()), of("a", str("c")))
	m := of("a", num(3), "b", of("a", list(), "l", l), "z", yes())
	return []api.Value{null(), num(1), l, m, of("a", num(0), "b", str("b"), "l", l, "m", m), of("m", of("m", m, "l", list(m, l)), "l", of("l", l), "a", no())}
}

func TestBesideOthers(t *testing.T) {
	w := &writer{Rand: rand.New(rand.NewPCG(9, 1))}
	wrong := 0
	for i := range 6000 {
		x := w.template()
		dot := pick(w, dots()...)
		want, err := theirs(x.theirs, dot)
		got, e := eval.Text(x.ours, dot)
		if e == api.ErrFuel {
			continue
		}
		if err != nil && err != errWrong || (err != nil) != (e != api.OK) || err == nil && got != want {
			t.Fatalf("%d: Text(%s) of %s = %q, %d, theirs %q, %v of %s", i, x.ours, told(dot), got, e, want, err, x.theirs)
		}
		if err != nil {
			wrong++
		}
	}
	if wrong == 0 || wrong > 4000 {
		t.Errorf("%d were wrong", wrong)
	}
}
