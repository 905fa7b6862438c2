package parse_test

import (
	"math/rand/v2"
	"strings"
	"testing"

	"mizzen/api"
	"mizzen/parse"
	"mizzen/sample"
	"mizzen/trim"
)

// clean says whether an expression has only what its kind has.
func clean(x parse.Expr) bool {
	named := x.Kind == parse.Var || x.Kind == parse.Call
	ok := x.Kind >= parse.Lit && x.Kind <= parse.Call && named == parse.Name(x.Name) && named == (x.Name != "")
	ok = ok && (x.Kind == parse.Lit || x.Value.Kind == api.Null) && (x.Kind == parse.Call || len(x.Args) == 0)
	ok = ok && (len(x.Steps) == 0 || x.Kind == parse.Dot || x.Kind == parse.Var)
	for _, arg := range x.Args {
		ok = ok && clean(arg)
	}
	return ok
}

// cleanNodes says whether nodes have only what their kinds have.
func cleanNodes(l []parse.Node) bool {
	for _, n := range l {
		block := n.Kind == parse.If || n.Kind == parse.With || n.Kind == parse.Range
		ok := (n.Text != "") == (n.Kind == parse.Text) && (n.Key == "" || n.Kind == parse.Range && n.Name != "") && (n.Name == "" || n.Kind >= parse.Range)
		ok = ok && (len(n.Body) == 0 || block || n.Kind == parse.Define) && (len(n.Else) == 0 || block)
		ok = ok && (n.Kind != parse.Text && n.Kind != parse.Define || told(n.Expr) == told(parse.Expr{}))
		if !ok || !clean(n.Expr) || !cleanNodes(n.Body) || !cleanNodes(n.Else) {
			return false
		}
	}
	return true
}

// wantClean tells, if a text's answers have anything that they may not have.
func wantClean(t *testing.T, s string) {
	t.Helper()
	if x, e := parse.Pipe(s); !clean(x) || e != api.OK && told(x) != told(parse.Expr{}) {
		t.Errorf("Pipe(%q) = %s, %d", s, told(x), e)
	}
	l, e := parse.Parse(s)
	if !cleanNodes(l) || e != api.OK && len(l) > 0 {
		t.Errorf("Parse(%q) = %s, %d", s, told(l), e)
	}
	if _, wrong := trim.Split(s); wrong != api.OK && e != wrong {
		t.Errorf("Parse(%q): %d, want %d", s, e, wrong)
	}
	again, same := parse.Parse(s)
	if told(again) != told(l) || same != e {
		t.Errorf("Parse(%q) isn't the same again", s)
	}
}

func TestAnyText(t *testing.T) {
	for _, s := range sample.Texts(5, "a.$(|) 1\"-") {
		if x, e := parse.Pipe(s); !clean(x) || e != api.OK && told(x) != told(parse.Expr{}) {
			t.Errorf("Pipe(%q) = %s, %d", s, told(x), e)
		}
	}
	for _, s := range sample.Texts(3, "a.$(|) 1\"-,:=\\\n\xff\x00é#{}/*") {
		wantClean(t, s)
		wantClean(t, "{{"+s+"}}")
		wantClean(t, "{{range $x"+s+"}}{{end}}")
		wantClean(t, "{{if .}}{{else"+s+"}}{{end}}")
	}
	parts := []string{"{{", "}}", " ", "if ", "else", "end", "range ", "define ", "with ", "$x", ":=", ",", ".a", "f", "|", "(", ")", `"n"`, "1", "x", "{{ end }}", "{{ else }}", "{{ if .a }}", "{{ range $x := .l }}", `{{ define "d" }}`, "{{ else if .b }}", "{{- ", " -}}", "\n", `"`, `\`}
	r := rand.New(rand.NewPCG(7, 1))
	for range 30000 {
		var s strings.Builder
		for range r.IntN(12) {
			s.WriteString(parts[r.IntN(len(parts))])
		}
		wantClean(t, s.String())
	}
}

// spoil overwrites all lists of an expression, with the room behind their ends.
func spoil(x parse.Expr) {
	for i := range x.Args {
		spoil(x.Args[i])
		x.Args[i] = parse.Expr{Kind: 99}
	}
	for i := range x.Steps[:cap(x.Steps)] {
		x.Steps[:cap(x.Steps)][i] = "spoilt"
	}
	for i := range x.Args[:cap(x.Args)] {
		x.Args[:cap(x.Args)][i] = parse.Expr{Kind: 98}
	}
}

func spoilNodes(l []parse.Node) {
	for i := range l {
		spoil(l[i].Expr)
		spoilNodes(l[i].Body)
		spoilNodes(l[i].Else)
	}
	for i := range l[:cap(l)] {
		l[:cap(l)][i] = parse.Node{Kind: 99}
	}
}

func TestNoMemoryIsShared(t *testing.T) {
	const s = "{{ if .a.b | f $x.c (g 1 .d) }}{{ range . }}{{ .a }}x{{ end }}{{ else if .b }}{{ .c }}{{ else }}{{ $x.y }}{{ end }}x{{ .z }}"
	first, _ := parse.Parse(s)
	want := told(first)
	spoilNodes(first[0].Body)
	if second, _ := parse.Parse(s); told(second) != want || told(first[0].Else) != told(second[0].Else) || told(first[0].Expr) != told(second[0].Expr) || told(first[1:]) != told(second[1:]) {
		t.Errorf("shared: %s", told(first))
	}
	x, _ := parse.Pipe("f .a.b .a.b (g .a.b) | h .a.b")
	want = told(x.Args[0])
	spoil(x.Args[1])
	if told(x.Args[0]) != want {
		t.Errorf("shared: %s", told(x))
	}
}
