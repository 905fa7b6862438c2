package parse_test

import (
	"strings"
	"testing"

	"mizzen/api"
	"mizzen/parse"
)

func TestNodes(t *testing.T) {
	x, y := nodes(text("x")), nodes(text("y"))
	for _, c := range []struct {
		s    string
		want []parse.Node
	}{
		{"{{ if .a }}x{{ else }}{{ .b | upper }}{{ end }}", nodes(choice(parse.If, dot("a"), x, nodes(out(call("upper", dot("b"))))))},
		{"", nil},
		{"x", x},
		{"{{/* x */}}", nil},
		{"}} x", nodes(text("}} x"))},
		{"{{.}}", nodes(out(dot()))},
		{"a{{ .b }}c", nodes(text("a"), out(dot("b")), text("c"))},
		{"a {{- .b -}} c{{/* d */}}e", nodes(text("a"), out(dot("b")), text("c"), text("e"))},
		{`{{ "}}" }}`, nodes(out(str("}}")))},
		{"{{f 1}}{{(end)}}", nodes(out(call("f", num(1))), out(call("end")))},
		{"{{ $x := 1 }}", nodes(let("x", num(1)))},
		{"{{$x:=f .|g}}", nodes(let("x", call("g", call("f", dot()))))},
		{"{{ $x\n:=\t(1) }}", nodes(let("x", num(1)))},
		{"{{ $if }}{{ $x.a }}{{ $x|f }}", nodes(out(variable("if")), out(variable("x", "a")), out(call("f", variable("x"))))},
		{"{{ if .a }}{{ end }}", nodes(choice(parse.If, dot("a"), nil, nil))},
		{"{{ if .a }}{{ else }}{{ end }}", nodes(choice(parse.If, dot("a"), nil, nil))},
		{"{{ if .a }}x{{ else }}y{{ end }}x", nodes(choice(parse.If, dot("a"), x, y), text("x"))},
		{"{{ with .a }}x{{ end }}", nodes(choice(parse.With, dot("a"), x, nil))},
		{"{{ with .a }}x{{ else }}y{{ end }}", nodes(choice(parse.With, dot("a"), x, y))},
		{"{{ range .a }}x{{ end }}", nodes(each("", "", dot("a"), x, nil))},
		{"{{ range .a }}x{{ else }}y{{ end }}", nodes(each("", "", dot("a"), x, y))},
		{"{{ range $v := .a }}x{{ end }}", nodes(each("", "v", dot("a"), x, nil))},
		{"{{ range $i, $v := .a }}x{{ end }}", nodes(each("i", "v", dot("a"), x, nil))},
		{"{{range$i,$v:=.a|f}}x{{end}}", nodes(each("i", "v", call("f", dot("a")), x, nil))},
		{"{{ range\n$i\t,\n$v\t:=\n.a }}x{{ end }}", nodes(each("i", "v", dot("a"), x, nil))},
		{"{{ range $v, $v := $v }}x{{ end }}", nodes(each("v", "v", variable("v"), x, nil))},
		{"{{ range $v }}x{{ end }}", nodes(each("", "", variable("v"), x, nil))},
		{"{{ range $v.a|f $v }}x{{ end }}", nodes(each("", "", call("f", variable("v"), variable("v", "a")), x, nil))},
		{`{{ define "a" }}x{{ end }}`, nodes(define("a", text("x")))},
		{`{{ define "a" }}{{ end }}{{ define "a" }}{{ . }}{{ end }}`, nodes(define("a"), define("a", out(dot())))},
		{`{{define"_true"}}x{{end}}`, nodes(define("_true", text("x")))},
		{"{{if.a}}x{{end}}", nodes(choice(parse.If, dot("a"), x, nil))},
		{"{{if(.a)}}x{{end}}", nodes(choice(parse.If, dot("a"), x, nil))},
		{`{{with"a"}}x{{end}}`, nodes(choice(parse.With, str("a"), x, nil))},
		{"{{if$x}}x{{end}}", nodes(choice(parse.If, variable("x"), x, nil))},
		{"{{if-1}}x{{end}}", nodes(choice(parse.If, num(-1), x, nil))},
		{"{{ if if }}x{{ end }}", nodes(choice(parse.If, call("if"), x, nil))},
		{"{{ if end else }}x{{ end }}", nodes(choice(parse.If, call("end", call("else")), x, nil))},
		{"{{ ifs }}{{ ends }}{{ elsewhere }}{{ elseif .a }}{{ End }}{{ ranged }}{{ define1 }}{{ withal }}", nodes(out(call("ifs")), out(call("ends")), out(call("elsewhere")), out(call("elseif", dot("a"))), out(call("End")), out(call("ranged")), out(call("define1")), out(call("withal")))},
	} {
		wantNodes(t, c.s, c.want)
	}
}

func TestElseIf(t *testing.T) {
	x, y, z := nodes(text("x")), nodes(text("y")), nodes(text("z"))
	inner := func(other []parse.Node) []parse.Node { return nodes(choice(parse.If, dot("b"), y, other)) }
	for _, c := range []struct {
		s    string
		want parse.Node
	}{
		{"{{ if .a }}x{{ else if .b }}y{{ end }}", choice(parse.If, dot("a"), x, inner(nil))},
		{"{{ if .a }}x{{ else }}{{ if .b }}y{{ end }}{{ end }}", choice(parse.If, dot("a"), x, inner(nil))},
		{"{{ if .a }}x{{ else if .b }}y{{ else }}z{{ end }}", choice(parse.If, dot("a"), x, inner(z))},
		{"{{if .a}}x{{else\n\tif.b}}y{{else}}z{{end}}", choice(parse.If, dot("a"), x, inner(z))},
		{"{{ if .a }}x{{ else if .b }}y{{ else if .b }}y{{ else }}z{{ end }}", choice(parse.If, dot("a"), x, inner(inner(z)))},
		{"{{ if .a }}{{ if .b }}y{{ else if .b }}y{{ end }}{{ else if .b }}y{{ end }}", choice(parse.If, dot("a"), inner(inner(nil)), inner(nil))},
		{"{{ if .a }}x{{ else }}{{ if .b }}y{{ end }}z{{ end }}", choice(parse.If, dot("a"), x, append(inner(nil), z...))},
	} {
		wantNodes(t, c.s+"x", nodes(c.want, text("x")))
	}
}

func TestBlocksThatAreNotClosed(t *testing.T) {
	for _, s := range []string{
		"{{ if .a }}", "{{ with .a }}x", "{{ range .a }}", `{{ define "a" }}`, "{{ if .a }}{{ else }}", "{{ if .a }}{{ else if .b }}", "{{ if .a }}{{ else if .b }}{{ else }}",
		"{{ if .a }}{{ if .b }}{{ end }}", "{{ if .a }}{{ else }}{{ if .b }}{{ end }}", "{{ range .a }}{{ with .b }}{{ end }}x",
		"{{ end }}", "x{{ end }}", "{{ if .a }}{{ end }}{{ end }}", `{{ define "a" }}{{ end }}{{ end }}`, "{{ if .a }}{{ else if .b }}{{ end }}{{ end }}", "{{ end }}{{ if .a }}",
		"{{ else }}", "{{ else if .a }}{{ end }}", "{{ if .a }}{{ end }}{{ else }}", `{{ define "a" }}{{ else }}{{ end }}`, `{{ define "a" }}{{ else if .a }}{{ end }}`,
		"{{ if .a }}{{ else }}{{ else }}{{ end }}", "{{ if .a }}{{ else }}{{ else if .b }}{{ end }}", "{{ if .a }}{{ else if .b }}{{ else }}{{ else }}{{ end }}", "{{ range .a }}{{ else }}{{ else }}{{ end }}",
		"{{ with .a }}{{ else if .b }}{{ end }}", "{{ range .a }}{{ else if .b }}{{ end }}", "{{ with .a }}{{ else with .b }}{{ end }}", "{{ if .a }}{{ else with .b }}{{ end }}",
		"{{ if .a }}{{ else .b }}{{ end }}", "{{ if .a }}{{ else ifs }}{{ end }}", "{{ if .a }}{{ else(.b) }}{{ end }}", "{{ if .a }}{{ else # }}{{ end }}", `{{ if .a }}{{ else "\x" }}{{ end }}`,
		"{{ if .a }}{{ end .b }}", "{{ if .a }}{{ end if }}", "{{ if .a }}{{ end# }}", `{{ if .a }}{{ end "\x" }}`, "{{ if .a }}{{ else }}{{ end | f }}", "{{ if .a }}{{ end end }}", `{{ define "a" }}{{ end "a" }}`, "{{ if .a }}{{ else if .b }}{{ end 99999999999999999999 }}",
		"{{ end .a }}", "{{ else .a }}", "{{ if .a }}{{ else .b }}{{ else }}{{ end }}",
	} {
		wantWrong(t, s, api.ErrClose)
	}
}

func TestWrongActions(t *testing.T) {
	for _, s := range []string{
		"{{}}", "{{ }}", "{{- -}}", "{{ - }}", "{{--}}", "{{ if }}{{ end }}", "{{ with }}{{ end }}", "{{ range }}{{ end }}", "{{ if .a }}{{ else if }}{{ end }}", "{{ .a .b }}", "{{ if .a .b }}{{ end }}", "{{ if | f }}{{ end }}",
		"{{ if $x := .a }}{{ end }}", "{{ with $x := .a }}{{ end }}", "{{ range $x, .a }}{{ end }}", "{{ range $x, $y }}{{ end }}", "{{ range $x $y := .a }}{{ end }}", "{{ range $x, y := .a }}{{ end }}", "{{ range x, $y := .a }}{{ end }}", "{{ range x := .a }}{{ end }}",
		"{{ range $x, $y, $z := .a }}{{ end }}", "{{ range , $x := .a }}{{ end }}", "{{ range $x, := .a }}{{ end }}", "{{ range $x := }}{{ end }}", "{{ range $x, $y := }}{{ end }}", "{{ range $x.a := .b }}{{ end }}", "{{ range $x, $y.a := .b }}{{ end }}", "{{ range := .a }}{{ end }}", "{{ range $x : = .a }}{{ end }}", "{{ range $x = .a }}{{ end }}", "{{ range $1 := .a }}{{ end }}",
		"{{ $x := }}", "{{ $x = 1 }}", "{{ $x : = 1 }}", "{{ $x.a := 1 }}", "{{ $1 := 1 }}", "{{ $ := 1 }}", "{{ $ x := 1 }}", "{{ x := 1 }}", "{{ $x, $y := .a }}", "{{ $x := $y := 1 }}", "{{ $x := 1 2 }}", "{{ ($x := 1) }}", "{{ := 1 }}",
		"{{ $" + strings.Repeat("x", api.MaxKey+1) + " := 1 }}", "{{ range $x, $" + strings.Repeat("x", api.MaxKey+1) + " := .a }}{{ end }}",
		`{{ define "a" .a }}{{ end }}`, `{{ define "a" "b" }}{{ end }}`, `{{ define "a" | f }}{{ end }}`, `{{ define "a") }}{{ end }}`,
		"{{ 'a' }}", "{{ #/* a */ }}", "{{ /* a */ .b }}",
	} {
		wantWrong(t, s, api.ErrToken)
	}
	for _, s := range []string{
		`{{ define "" }}{{ end }}`, `{{ define "1" }}{{ end }}`, `{{ define "a b" }}{{ end }}`, `{{ define "a.b" }}{{ end }}`, `{{ define "a-b" }}{{ end }}`, `{{ define "é" }}{{ end }}`, `{{ define " a" }}{{ end }}`, `{{ define "a\n" }}{{ end }}`, `{{ define "` + strings.Repeat("x", api.MaxKey+1) + `" }}{{ end }}`,
		`{{ if .a }}{{ define "a" }}{{ end }}{{ end }}`, `{{ if .a }}{{ else }}{{ define "a" }}{{ end }}{{ end }}`, `{{ if .a }}{{ else if .b }}{{ define "a" }}{{ end }}{{ end }}`, `{{ with .a }}{{ define "a" }}{{ end }}{{ end }}`, `{{ range .a }}{{ define "a" }}{{ end }}{{ end }}`, `{{ define "b" }}{{ define "a" }}{{ end }}{{ end }}`,
		`{{ if .a }}{{ define }}`, `{{ if .a }}{{ define "\x" }}`, `{{ if .a }}{{ define "1" }}`,
	} {
		wantWrong(t, s, api.ErrName)
	}
	wantNodes(t, `{{ define "`+strings.Repeat("x", api.MaxKey)+`" }}{{ end }}`, nodes(define(strings.Repeat("x", api.MaxKey))))
	for _, s := range []string{`{{ define "\x" }}{{ end }}`, `{{ "\x" }}`, `{{ if "\x" }}{{ end }}`, `{{ $x := "\x" }}`, `{{ range $x, $y := "\x" }}`, "{{ \"\n\" }}", `{{ if .a }}{{ else if "\x" }}`} {
		wantWrong(t, s, api.ErrQuote)
	}
	for _, s := range []string{"{{ 9223372036854775808 }}", "{{ with -9223372036854775809 }}", "{{ $x := 9223372036854775808 }}", "{{ range $x, $y := 9223372036854775808 }}"} {
		wantWrong(t, s, api.ErrOver)
	}
}

func TestADefineWithoutAName(t *testing.T) {
	for _, behind := range []string{
		"", " ", " -", " .", ".a", " .a", " .a.b", "$a", " $a.b", " a", " true", " false", " nil", " if", " end", " define", " 0", "-1", " -1", " 9223372036854775807", " " + strings.Repeat("a", api.MaxKey),
		"(", " )", `("a")`, " (a)", " ()", "|", ` | "a"`, ",", ":=", ` := "a"`, ` . "a"`, ` a "b"`, ` 1 "a"`, ` $a := "b"`, ` $a, $b := "c"`, " .a | f",
	} {
		wantWrong(t, "{{ define"+behind+"}}{{ end }}", api.ErrName)
	}
	for _, behind := range []string{"#", " #", " 'a'", " `a`", " /a", " :", " =", " $", " $1", " - 1", " é", ` \"a"`, " [", " &", " " + strings.Repeat("a", api.MaxKey+1)} {
		wantWrong(t, "{{ define"+behind+" }}{{ end }}", api.ErrToken)
	}
	for _, s := range []string{"{{ define 9223372036854775808 }}{{ end }}", "{{ define -9223372036854775809 }}{{ end }}"} {
		wantWrong(t, s, api.ErrOver)
	}
	for _, s := range []string{`{{ define "\x" }}{{ end }}`, "{{ define \"a\n\" }}{{ end }}", `{{ define "\x" # }}`} {
		wantWrong(t, s, api.ErrQuote)
	}
}

func TestWrongTokens(t *testing.T) {
	for _, s := range []string{"{{", "{{ # }}{{", "{{ end }}{{ if", `{{ "\x" }}{{ "`} {
		wantWrong(t, s, api.ErrClose)
	}
	full := strings.Repeat("x", api.MaxText)
	wantNodes(t, full, nodes(text(full)))
	wantWrong(t, full+"x", api.ErrSize)
	wantWrong(t, "{{ # }}{{"+full, api.ErrSize)
}

func TestTheFirstWrongAction(t *testing.T) {
	for _, c := range []struct {
		s     string
		wrong api.Errno
	}{
		{`{{ # }}{{ "\x" }}`, api.ErrToken},
		{`{{ "\x" }}{{ # }}`, api.ErrQuote},
		{`{{ 9223372036854775808 }}{{ end }}`, api.ErrOver},
		{`{{ end }}{{ 9223372036854775808 }}`, api.ErrClose},
		{`{{ if # }}`, api.ErrToken},
		{`{{ if .a }}{{ # }}`, api.ErrToken},
		{`{{ if .a }}{{ else }}{{ # }}`, api.ErrToken},
		{`{{ if .a }}{{ else # }}{{ "\x" }}`, api.ErrClose},
		{`{{ if .a }}{{ else if # }}`, api.ErrToken},
		{`{{ define "1" # }}`, api.ErrName},
		{`{{ define "a" # }}`, api.ErrToken},
		{`{{ define .a # }}`, api.ErrName},
		{`{{ define .a "\x" }}`, api.ErrName},
		{`{{ define 1 99999999999999999999 }}`, api.ErrName},
		{`{{ define (# }}`, api.ErrName},
		{`{{ define ` + strings.Repeat("(", api.MaxDepth+1) + ` }}`, api.ErrName},
		{`{{ define .a }}{{ # }}`, api.ErrName},
		{`{{ define .a }}`, api.ErrName},
		{`{{ # }}{{ define .a }}`, api.ErrToken},
		{`{{ define "1" }}{{ # }}`, api.ErrName},
		{`{{ define "a" }}{{ # }}`, api.ErrToken},
		{`{{ define "a" }}{{ define "1" }}`, api.ErrName},
		{`{{ define "1" }}{{ define "a" }}`, api.ErrName},
		{`{{ # }}{{ define "1" }}`, api.ErrToken},
		{`{{ if .a }}{{ end # }}{{ "\x" }}`, api.ErrClose},
	} {
		wantWrong(t, c.s, c.wrong)
	}
}

// inside is a text in so many blocks, of all kinds by turns.
func inside(n int, s string) (string, []parse.Node) {
	l := nodes(text(s))
	for i := range n {
		switch i % 4 {
		case 0:
			s, l = "{{ if . }}"+s+"{{ end }}", nodes(choice(parse.If, dot(), l, nil))
		case 1:
			s, l = "{{ with . }}{{ else }}"+s+"{{ end }}", nodes(choice(parse.With, dot(), nil, l))
		case 2:
			s, l = "{{ range $x := . }}"+s+"{{ end }}", nodes(each("", "x", dot(), l, nil))
		case 3:
			s, l = "{{ if . }}{{ else if . }}"+s+"{{ end }}", nodes(choice(parse.If, dot(), nil, nodes(choice(parse.If, dot(), l, nil))))
		}
	}
	return s, l
}

func TestBlocksInEachOther(t *testing.T) {
	s, l := inside(13, "x") // three of these are two blocks
	wantNodes(t, s, l)
	wantNodes(t, s+s, append(l, l...))
	for _, head := range []string{"{{ if . }}", "{{ with . }}", "{{ range . }}", "{{ range $i, $x := . }}", "{{ if . }}{{ else }}", "{{ with . }}{{ else }}", "{{ range . }}{{ else }}"} {
		wantWrong(t, head+s+"{{ end }}", api.ErrDeep)
		wantWrong(t, strings.Repeat(head, api.MaxDepth), api.ErrClose)
		wantWrong(t, strings.Repeat(head, api.MaxDepth+1), api.ErrDeep)
		wantWrong(t, strings.Repeat("{{ if . }}", api.MaxDepth)+head, api.ErrDeep)
	}
	for _, last := range []string{"{{ if # }}", "{{ range $x # }}", `{{ with "\x" }}`, `{{ define "a" }}`, "{{ define }}"} {
		wantWrong(t, strings.Repeat("{{ if . }}", api.MaxDepth)+last, api.ErrDeep)
	}
	wantWrong(t, strings.Repeat("{{ if . }}", api.MaxDepth-1)+`{{ define "a" }}`, api.ErrName)
	wantWrong(t, strings.Repeat("{{ if . }}", api.MaxDepth+1)+"{{ # }}", api.ErrDeep)
	wantWrong(t, strings.Repeat("{{ if . }}", api.MaxDepth)+"{{ # }}{{ if . }}", api.ErrToken)
	many := strings.Repeat("{{ if . }}{{ end }}", 100)
	if l, e := parse.Parse(many); e != api.OK || len(l) != 100 {
		t.Errorf("%d blocks behind each other, %d", len(l), e)
	}
}

func TestIfsInElses(t *testing.T) {
	s := "{{ if . }}" + strings.Repeat("{{ else if . }}", api.MaxDepth-1)
	l := nodes(choice(parse.If, dot(), nil, nil))
	for range api.MaxDepth - 1 {
		l = nodes(choice(parse.If, dot(), nil, l))
	}
	wantNodes(t, s+"{{ end }}", l)
	wantWrong(t, s, api.ErrClose)
	wantWrong(t, s+"{{ else if # }}{{ end }}", api.ErrDeep)
	wantWrong(t, s+"{{ if . }}{{ end }}{{ end }}", api.ErrDeep)
}

func TestBracketsInBlocks(t *testing.T) {
	s, l := inside(13, "x")
	deep := strings.Repeat("(", api.MaxDepth) + ".a" + strings.Repeat(")", api.MaxDepth)
	wantNodes(t, strings.Replace(s, "x{{", "x{{"+deep+"}}{{", 1), added(l))
	wantWrong(t, strings.Replace(s, "x{{", "x{{("+deep+")}}{{", 1), api.ErrDeep)
}

// added are nodes with an action behind the innermost text.
func added(l []parse.Node) []parse.Node {
	if l[0].Kind == parse.Text {
		return nodes(l[0], out(dot("a")))
	}
	n := l[0]
	if len(n.Body) > 0 {
		n.Body = added(n.Body)
	} else {
		n.Else = added(n.Else)
	}
	return nodes(n)
}
