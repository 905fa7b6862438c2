package eval_test

import (
	"math"
	"testing"

	"mizzen/api"
	"mizzen/sample"
	"mizzen/tree"
)

func TestTextsAreLaid(t *testing.T) {
	gives(t, "", null(), "")
	gives(t, "a", null(), "a")
	gives(t, " a\n{ b } \xff\x00é", null(), " a\n{ b } \xff\x00é")
	gives(t, "a {{- 1 -}} b", null(), "a1b")
	gives(t, "a{{/* no */}}b", null(), "ab")
}

func TestOutLaysTheTextOfAValue(t *testing.T) {
	for want, v := range map[string]api.Value{
		"": null(), "true": yes(), "false": no(), "-9223372036854775808": num(math.MinInt64), "7": num(7), "a b\n\t\"\\": str("a b\n\t\"\\"), "\xff": str("\xff"),
		"[]": list(num(1)), "{}": of("a", num(1)),
	} {
		gives(t, "<{{ . }}>", v, "<"+want+">")
		gives(t, "<{{ .a.b }}>", of("a", of("b", v)), "<"+want+">")
	}
	gives(t, "{{ . }}{{ . }}", list(), "[][]")
	gives(t, "{{ . }}{{ . }}", of(), "{}{}")
}

func TestExpressions(t *testing.T) {
	gives(t, `{{ "a\n\"" }}{{ -07 }}{{ true }}{{ false }}{{ nil }}`, null(), "a\n\"-7truefalse")
	dot := of("a", of("b", of("c", num(1)), "l", list(of("c", num(2)))), "x", num(3))
	gives(t, "{{ .a.b.c }}{{ .x }}", dot, "13")
	gives(t, "<{{ .b }}{{ .a.c }}{{ .a.b.c.d }}{{ .x.x }}{{ .a.l.c }}>", dot, "<>")
	gives(t, "<{{ .a }}{{ .a.b }}>", null(), "<>")
	gives(t, "{{ $x := .a }}{{ $x.b.c }}<{{ $x.c }}{{ $x.b.c.c }}>", dot, "1<>")
	gives(t, "{{ $x := . }}{{ $x.x }}{{ $x }}", dot, "3{}")
	gives(t, "{{ .x | add 1 | mul (sub 7 5) | print 1 2 }}", dot, "128")
	gives(t, "{{ print }}{{ print (print 1) (print) list }}", dot, "1[]")
	gives(t, `{{ upper "a" | print .x (lower "B") }}`, dot, "3bA")
}

func TestVariablesThatAreNotThere(t *testing.T) {
	for _, s := range []string{"$x", "$x.a", "print $x", "print 1 (print $x)", "$x | print", "default 1 $x", "and false $x", "or true $x", "ternary 1 $x true"} {
		fails(t, "a{{ "+s+" }}", of("x", num(1)), api.ErrName)
		fails(t, "{{ if "+s+" }}{{ end }}", of("x", num(1)), api.ErrName)
		fails(t, "{{ with "+s+" }}{{ end }}", of("x", num(1)), api.ErrName)
		fails(t, "{{ range "+s+" }}{{ end }}", of("x", num(1)), api.ErrName)
		fails(t, "{{ $y := "+s+" }}", of("x", num(1)), api.ErrName)
	}
	gives(t, "{{ if false }}{{ $x }}{{ end }}{{ range .l }}{{ $x }}{{ end }}", null(), "")
}

func TestIf(t *testing.T) {
	for _, v := range sample.Values() {
		want := "no"
		if tree.Truth(v) {
			want = "yes"
		}
		dot := of("v", v)
		gives(t, "{{ if .v }}yes{{ else }}no{{ end }}", dot, want)
		gives(t, "{{ if not .v }}no{{ else if .v }}yes{{ end }}", dot, want)
		gives(t, "{{ if .v }}{{ end }}{{ if not .v }}{{ end }}", dot, "")
	}
	gives(t, "{{ if .a }}{{ .b }}{{ else }}{{ .c }}{{ end }}", of("a", of("b", num(1)), "b", num(2), "c", num(3)), "2")
	gives(t, "{{ if .z }}{{ .b }}{{ else }}{{ .c }}{{ end }}", of("b", num(2), "c", num(3)), "3")
	gives(t, "{{ if .a }}1{{ else if .b }}2{{ else if .c }}3{{ else }}4{{ end }}", of("c", num(1)), "3")
	gives(t, "{{ if .a }}1{{ else if .b }}2{{ else if .c }}3{{ else }}4{{ end }}", null(), "4")
}

func TestWith(t *testing.T) {
	for _, v := range sample.Values() {
		want := "no{}"
		if tree.Truth(v) {
			want = "yes" + texted(v)
		}
		gives(t, "{{ with .v }}yes{{ . }}{{ else }}no{{ . }}{{ end }}", of("v", v), want)
	}
	dot := of("a", of("b", of("b", num(1)), "c", num(2)), "b", num(3))
	gives(t, "{{ with .a }}{{ .c }}{{ with .b }}{{ .b }}{{ end }}{{ .c }}{{ end }}{{ .b }}", dot, "2123")
	gives(t, "{{ with .a }}{{ with .z }}{{ else }}{{ .c }}{{ end }}{{ end }}", dot, "2")
	gives(t, "{{ with .z }}x{{ end }}", dot, "")
}

// texted is a value as an Out lays it.
func texted(v api.Value) string {
	switch v.Kind {
	case api.Bool:
		return "true"
	case api.Str:
		return v.Str
	case api.List:
		return "[]"
	case api.Map:
		return "{}"
	}
	return map[int64]string{-1: "-1", 7: "7", math.MinInt64: "-9223372036854775808", math.MaxInt64: "9223372036854775807"}[v.Int]
}

func TestRange(t *testing.T) {
	l, m := list(str("a"), null(), num(3)), of("k", str("b"), "a", no(), "z", list(num(1)))
	dot := of("l", l, "m", m, "x", str("x"))
	gives(t, "{{ range .l }}<{{ . }}>{{ end }}", dot, "<a><><3>")
	gives(t, "{{ range .m }}<{{ . }}>{{ end }}", dot, "<false><b><[]>")
	gives(t, "{{ range $v := .l }}<{{ $v }}{{ . }}>{{ end }}", dot, "<aa><><33>")
	gives(t, "{{ range $v := .m }}<{{ $v }}{{ . }}>{{ end }}", dot, "<falsefalse><bb><[][]>")
	gives(t, "{{ range $i, $v := .l }}<{{ $i }}{{ $v }}{{ . }}>{{ end }}", dot, "<0aa><1><233>")
	gives(t, "{{ range $i, $v := .m }}<{{ $i }}{{ $v }}>{{ end }}", dot, "<afalse><kb><z[]>")
	gives(t, "{{ range $i, $i := .l }}<{{ $i }}>{{ end }}{{ range $i, $i := .m }}<{{ $i }}>{{ end }}", dot, "<a><><3><false><b><[]>")
	gives(t, "{{ range $i, $v := .l }}{{ add $i 1 }}{{ end }}{{ range $k, $v := .m }}{{ eq $k (toString $k) }}{{ end }}", dot, "123truetruetrue")
	gives(t, "{{ range .l }}x{{ else }}y{{ end }}{{ range .m }}x{{ else }}y{{ end }}{{ .x }}", dot, "xxxxxxx")
	gives(t, "{{ range .l }}{{ end }}{{ range $i, $v := .m }}{{ end }}", dot, "")
	gives(t, "{{ range list (list 1 2) (list 3) }}{{ range . }}{{ . }}{{ end }};{{ end }}", dot, "12;3;")
	gives(t, "{{ range .a }}{{ .b }}{{ range .c }}{{ .b }}{{ end }}{{ end }}", of("a", list(of("b", num(1), "c", list(of("b", num(2)), of("b", num(3)))), of("b", num(4)))), "1234")
}

func TestRangeOfNothing(t *testing.T) {
	for _, v := range []api.Value{null(), list(), of()} {
		gives(t, "{{ range .v }}x{{ else }}{{ .y }}{{ end }}", of("v", v, "y", str("else")), "else")
		gives(t, "{{ range $i, $x := .v }}x{{ end }}", of("v", v), "")
		gives(t, "{{ $i := 1 }}{{ range $i, $x := .v }}x{{ else }}{{ $i }}{{ end }}", of("v", v), "1")
		fails(t, "{{ range $i, $x := .v }}x{{ else }}{{ $i }}{{ end }}", of("v", v), api.ErrName)
		fails(t, "{{ range $i, $x := .v }}x{{ else }}{{ $x }}{{ end }}", of("v", v), api.ErrName)
	}
	gives(t, "{{ range .v }}x{{ else }}y{{ end }}", of("x", num(1)), "y")
}

func TestRangeOfOthers(t *testing.T) {
	for _, v := range []api.Value{yes(), no(), num(0), num(3), str(""), str("abc")} {
		fails(t, "{{ range .v }}x{{ else }}y{{ end }}", of("v", v), api.ErrKind)
		fails(t, "a{{ range $i, $x := .v }}{{ end }}", of("v", v), api.ErrKind)
	}
	fails(t, "{{ range .l }}{{ range . }}{{ end }}{{ end }}", of("l", list(list(), num(1))), api.ErrKind)
}

func TestVariablesAreThereUpToTheEnd(t *testing.T) {
	dot := of("a", num(1), "l", list(num(1), num(2), num(3)), "m", of("a", num(2)))
	gives(t, "{{ $x := .a }}{{ $x }}{{ $x := add $x 1 }}{{ $x }}", dot, "12")
	gives(t, "{{ $x := 1 }}{{ if .a }}{{ $x }}{{ $x := 2 }}{{ $x }}{{ end }}{{ $x }}", dot, "121")
	gives(t, "{{ $x := 1 }}{{ if .z }}{{ else }}{{ $x }}{{ $x := 2 }}{{ $x }}{{ end }}{{ $x }}", dot, "121")
	gives(t, "{{ $x := 1 }}{{ with .m }}{{ $x }}{{ $x := .a }}{{ $x }}{{ end }}{{ $x }}", dot, "121")
	gives(t, "{{ $x := 1 }}{{ with .z }}{{ else }}{{ $x }}{{ $x := 2 }}{{ $x }}{{ end }}{{ $x }}", dot, "121")
	gives(t, "{{ $x := 0 }}{{ range .l }}{{ $x }}{{ $x := . }}{{ $x }}{{ end }}{{ $x }}", dot, "0102030")
	gives(t, "{{ $x := 1 }}{{ range .z }}{{ else }}{{ $x }}{{ $x := 2 }}{{ $x }}{{ end }}{{ $x }}", dot, "121")
	gives(t, "{{ $x := 9 }}{{ range $x := .l }}{{ $x }}{{ $x := 0 }}{{ $x }}{{ end }}{{ $x }}", dot, "1020309")
	gives(t, "{{ $x := .l }}{{ range $i, $x := $x }}{{ $x }}{{ end }}{{ range $x, $y := $x }}{{ $x }}{{ end }}", dot, "123012")
	gives(t, "{{ $x := 1 }}{{ if .a }}{{ if .a }}{{ $y := 2 }}{{ with .m }}{{ $x }}{{ $y }}{{ end }}{{ end }}{{ end }}", dot, "12")
	gives(t, "{{ $a := 1 }}{{ $b := 2 }}{{ $a }}{{ $b }}{{ $a }}", dot, "121")
	gives(t, "{{ $x := . }}{{ with .m }}{{ $x.a }}{{ .a }}{{ end }}", dot, "12")
}

func TestVariablesAreGoneBehindTheEnd(t *testing.T) {
	dot := of("a", num(1), "l", list(num(1), num(2)))
	for _, s := range []string{
		"{{ $x }}{{ $x := 1 }}",
		"{{ $x := $x }}",
		"{{ if .a }}{{ $x := 1 }}{{ end }}{{ $x }}",
		"{{ if .z }}{{ else }}{{ $x := 1 }}{{ end }}{{ $x }}",
		"{{ with .a }}{{ $x := 1 }}{{ end }}{{ $x }}",
		"{{ range .l }}{{ $x := 1 }}{{ end }}{{ $x }}",
		"{{ range $x := .l }}{{ end }}{{ $x }}",
		"{{ range $x, $y := .l }}{{ end }}{{ $x }}",
		"{{ range $x := $x }}{{ end }}",
		"{{ range $i, $v := .l }}{{ if eq $i 1 }}{{ $x }}{{ end }}{{ $x := 1 }}{{ end }}",
	} {
		fails(t, s, dot, api.ErrName)
	}
}

func TestTheFirstThatIsWrongIsTold(t *testing.T) {
	for s, e := range map[string]api.Errno{
		"{{ $x }}{{":                       api.ErrClose,
		"{{ $x }}{{ ) }}":                  api.ErrToken,
		"{{ nope (add 1 true) }}":          api.ErrKind,
		"{{ nope $x (add 1 true) }}":       api.ErrName,
		"{{ print (add 1 true) $x }}":      api.ErrKind,
		"{{ add (nope) (add 1 true) }}":    api.ErrName,
		"{{ add (add 1 true) (nope) }}":    api.ErrKind,
		"{{ add 1 }}{{ nope }}":            api.ErrCall,
		"{{ nope }}{{ add 1 }}":            api.ErrName,
		"{{ required 1 nil }}":             api.ErrArg,
		"{{ dict 1 }}":                     api.ErrArg,
		"{{ mul 4611686018427387904 2 }}":  api.ErrOver,
		"{{ range 1 }}{{ nope }}{{ end }}": api.ErrKind,
		`{{ define "a" }}{{ end }}{{ nope }}{{ define "a" }}{{ end }}`: api.ErrTwice,
		`{{ define "a" }}{{ end }}{{ define "a" }}{{ end }}{{ end }}`:  api.ErrClose,
		`{{ if true }}{{ define "a" }}{{ end }}{{ end }}`:              api.ErrName,
	} {
		fails(t, s, null(), e)
	}
}

func TestExampleOfTheChapter(t *testing.T) {
	gives(t, "{{ range $i, $x := .l }}{{ $i }}={{ $x }} {{ end }}", of("l", list(str("a"), str("b"))), "0=a 1=b ")
}
