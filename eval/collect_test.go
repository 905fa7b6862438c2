package eval_test

import (
	"slices"
	"testing"

	"mizzen/api"
	"mizzen/eval"
	"mizzen/parse"
)

func nodes(t *testing.T, s string) []parse.Node {
	t.Helper()
	l, e := parse.Parse(s)
	if e != api.OK {
		t.Fatalf("Parse(%q): %d", s, e)
	}
	return l
}

// wantDefs tells, if these templates aren't collected.
func wantDefs(t *testing.T, d eval.Defs, l []parse.Node, want map[string]string) eval.Defs {
	t.Helper()
	got, e := eval.Collect(d, l)
	if e != api.OK || got == nil || len(got) != len(want) {
		t.Errorf("Collect(%v, %v) = %v, %d", d, l, got, e)
	}
	for name, s := range want {
		if body, ok := got[name]; !ok || told(body) != told(nodes(t, s)) {
			t.Errorf("%q: %v, %v, want %q", name, body, ok, s)
		}
	}
	return got
}

func TestCollect(t *testing.T) {
	wantDefs(t, nil, nil, nil)
	wantDefs(t, eval.Defs{}, nodes(t, "a{{ .b }}{{ if .c }}d{{ end }}{{ $x := 1 }}"), nil)
	d := wantDefs(t, nil, nodes(t, `a{{ define "x" }}{{ .b | upper }}c{{ end }}{{ define "y" }}{{ end }}`), map[string]string{"x": "{{ .b | upper }}c", "y": ""})
	d = wantDefs(t, d, nodes(t, `{{ define "z" }}1{{ end }}{{ include "x" . }}`), map[string]string{"x": "{{ .b | upper }}c", "y": "", "z": "1"})
	wantDefs(t, d, nil, map[string]string{"x": "{{ .b | upper }}c", "y": "", "z": "1"})
	wantDefs(t, eval.Defs{"": nil, "a b": {}, "print": nodes(t, "2")}, nodes(t, `{{ define "include" }}3{{ end }}`), map[string]string{"": "", "a b": "", "print": "2", "include": "3"})
}

func TestCollectOfOneNameTwice(t *testing.T) {
	x := eval.Defs{"x": nodes(t, "1")}
	for _, c := range []struct {
		d eval.Defs
		s string
	}{
		{nil, `{{ define "x" }}{{ end }}{{ define "x" }}{{ end }}`},
		{nil, `{{ define "x" }}1{{ end }}{{ define "y" }}{{ end }}{{ define "x" }}2{{ end }}`},
		{x, `{{ define "x" }}{{ end }}`},
		{x, `{{ define "y" }}{{ end }}{{ define "x" }}1{{ end }}`},
		{eval.Defs{"x": nil}, `{{ define "x" }}{{ end }}`},
	} {
		if d, e := eval.Collect(c.d, nodes(t, c.s)); len(d) != 0 || e != api.ErrTwice {
			t.Errorf("Collect(%v, %q) = %v, %d", c.d, c.s, d, e)
		}
	}
	if len(x) != 1 || told(x["x"]) != told(nodes(t, "1")) {
		t.Errorf("changed: %v", x)
	}
	wantDefs(t, x, nodes(t, `{{ define "X" }}{{ end }}`), map[string]string{"x": "1", "X": ""})
}

const full = `{{ define "x" }}{{ if .a.b }}{{ print .c.d (print $x.y 1) }}{{ else }}{{ range $i, $x := .l }}x{{ end }}{{ end }}{{ end }}`

// spoil overwrites all lists of nodes, with the room behind their ends.
func spoil(l []parse.Node) {
	for i := range l {
		spoilExpr(l[i].Expr)
		spoil(l[i].Body)
		spoil(l[i].Else)
	}
	for i := range l[:cap(l)] {
		l[:cap(l)][i] = parse.Node{Kind: 99}
	}
}

func spoilExpr(x parse.Expr) {
	for i := range x.Args {
		spoilExpr(x.Args[i])
	}
	for i := range x.Steps[:cap(x.Steps)] {
		x.Steps[:cap(x.Steps)][i] = "spoilt"
	}
	for i := range x.Args[:cap(x.Args)] {
		x.Args[:cap(x.Args)][i] = parse.Expr{Kind: 98}
	}
	for i := range x.Value.List {
		x.Value.List[i] = num(99)
	}
}

func TestWhatIsCollectedIsNewMemory(t *testing.T) {
	l := nodes(t, full)
	body := nodes(t, full)[0].Body
	body[0].Expr.Value = list(num(1))
	before := eval.Defs{"a": body, "b": body}
	d, e := eval.Collect(before, l)
	want := told(d)
	spoil(body)
	spoil(l)
	before["c"] = nil
	delete(before, "a")
	if told(d) != want || e != api.OK || len(d) != 3 {
		t.Errorf("was %s, is %s, %d", want, told(d), e)
	}
	a := told(d["a"])
	spoil(d["b"])
	if told(d["a"]) != a {
		t.Errorf("two of one answer share: %s", told(d["a"]))
	}
}

func TestCollectLeavesWhatIsHandedInAsItIs(t *testing.T) {
	room := slices.Concat(nodes(t, full), nodes(t, `{{ define "room" }}{{ end }}`))
	d := eval.Defs{"a": room[:1]}
	was := told(room)
	eval.Collect(d, room[:1])
	eval.Collect(d, nodes(t, `{{ define "a" }}{{ end }}`))
	if told(room) != was || len(d) != 1 || len(d["a"]) != 1 {
		t.Errorf("changed: %s", told(room))
	}
}
