package eval_test

import (
	"math"
	"slices"
	"strings"
	"testing"

	"mizzen/api"
	"mizzen/eval"
	"mizzen/parse"
)

// wantRun tells, if nodes don't come to this.
func wantRun(t *testing.T, d eval.Defs, l []parse.Node, dot api.Value, fuel int, want string, left int, wrong api.Errno) {
	t.Helper()
	s, n, e := eval.Run(d, l, dot, fuel)
	if s != want || n != left || e != wrong {
		t.Errorf("Run of %.300s with %d: %.100q, %d, %d, want %.100q, %d, %d", told(l), fuel, s, n, e, want, left, wrong)
	}
}

// takes tells, if a template doesn't take so much of the fuel, and comes to the same with more, and to ErrFuel with less.
func takes(t *testing.T, s string, dot api.Value, used int, want string, wrong api.Errno) {
	t.Helper()
	d, l := read(t, s)
	for fuel := range used + 20 {
		if fuel < used {
			wantRun(t, d, l, dot, fuel, "", 0, api.ErrFuel)
		} else {
			wantRun(t, d, l, dot, fuel, want, fuel-used, wrong)
		}
	}
	wantRun(t, d, l, dot, api.MaxFuel, want, api.MaxFuel-used, wrong)
	if got, e := eval.Text(s, dot); got != want || e != wrong {
		t.Errorf("Text(%q) = %q, %d, want %q, %d", s, got, e, want, wrong)
	}
}

func TestFuelOfNodes(t *testing.T) {
	dot := of("a", num(1), "l", list(num(1), num(2), num(3)))
	for _, c := range []struct {
		s    string
		used int
		want string
	}{
		{"", 0, ""}, {"a", 1, "a"}, {"a{{/* b */}}c", 2, "ac"}, {"{{ 1 }}", 2, "1"}, {"a{{ 1 }}b", 4, "a1b"},
		{"{{ . }}{{ .a }}{{ .a.b.c }}", 6, "{}1"}, {"{{ $x := 1 }}", 2, ""}, {"{{ $x := . }}{{ $x.a }}{{ $x.a.b }}", 6, "1"},
		{"{{ print }}", 2, ""}, {"{{ print 1 }}", 3, "1"}, {"{{ print 1 2 . }}", 5, "12{}"}, {"{{ print (print 1) 2 }}", 5, "12"}, {"{{ 1 | print | print }}", 4, "1"}, {"{{ (((1))) }}", 2, "1"},
		{"{{ and false 1 }}{{ or true 1 }}{{ ternary 1 2 true }}", 4 + 4 + 5, "falsetrue1"},
		{"{{ if .a }}x{{ else }}yz{{ 1 }}{{ end }}", 3, "x"}, {"{{ if .z }}x{{ else }}yz{{ 1 }}{{ end }}", 5, "yz1"}, {"{{ if .a }}{{ end }}", 2, ""}, {"{{ if .z }}x{{ end }}", 2, ""},
		{"{{ if .z }}x{{ else if .z }}x{{ else if .a }}y{{ end }}", 7, "y"},
		{"{{ with .a }}x{{ . }}{{ else }}y{{ end }}", 5, "x1"}, {"{{ with .z }}x{{ . }}{{ else }}y{{ end }}", 3, "y"}, {"{{ with .z }}x{{ end }}", 2, ""},
		{"{{ range .l }}{{ end }}", 2, ""}, {"{{ range .l }}x{{ end }}", 5, "xxx"}, {"{{ range .l }}x{{ . }}{{ end }}", 11, "x1x2x3"}, {"{{ range .z }}x{{ else }}y{{ end }}", 3, "y"}, {"{{ range .z }}x{{ end }}", 2, ""},
		{"{{ range $i, $x := .l }}{{ $i }}{{ $x }}{{ end }}", 14, "011223"}, {"{{ range . }}{{ end }}{{ range $k, $v := . }}{{ $k }}{{ end }}", 2 + 6, "al"},
		{"{{ range .l }}{{ range list 1 2 }}x{{ end }}{{ end }}", 2 + 3*(4+2), "xxxxxx"},
		{`{{ define "d" }}x{{ 1 }}{{ end }}`, 1, ""}, {`{{ define "d" }}x{{ 1 }}{{ end }}{{ include "d" 1 }}`, 1 + 4 + 3, "x1"}, {`{{ define "d" }}{{ end }}{{ include "d" 1 }}`, 5, ""},
		{`{{ define "d" }}{{ . }}{{ end }}{{ include "d" (include "d" 1) }}`, 1 + 1 + 5 + 4, "1"},
		{`{{ define "d" }}{{ if . }}{{ include "d" (sub . 1) }}{{ end }}{{ end }}{{ include "d" 3 }}`, 1 + 4 + 3*(2+6) + 2, ""},
	} {
		takes(t, c.s, dot, c.used, c.want, api.OK)
	}
}

// An error takes what was taken up to there; where the fuel ends ahead of it, that is ErrFuel.
func TestFuelOfErrors(t *testing.T) {
	most := xs(api.MaxText)
	for _, c := range []struct {
		s    string
		used int
		e    api.Errno
	}{
		{"{{ $x }}", 2, api.ErrName}, {"a{{ $x }}b", 3, api.ErrName}, {"{{ $x.y }}", 2, api.ErrName}, {"{{ nope }}", 2, api.ErrName}, {"{{ nope 1 2 }}", 4, api.ErrName}, {"{{ nope $x 2 }}", 3, api.ErrName},
		{"{{ add 1 }}", 3, api.ErrCall}, {"{{ add 1 true }}", 4, api.ErrKind}, {"{{ print (add 1 true) 2 }}", 5, api.ErrKind}, {"{{ print 2 (add 1 true) }}", 6, api.ErrKind}, {"{{ required 1 nil }}", 4, api.ErrArg},
		{"{{ range 1 }}x{{ end }}", 2, api.ErrKind}, {"{{ if $x }}x{{ end }}", 2, api.ErrName}, {"{{ with 1 }}x{{ $x }}{{ end }}", 5, api.ErrName}, {"{{ range list 1 2 }}{{ sub 2 . }}{{ $x }}{{ end }}", 4 + 4 + 2, api.ErrName},
		{"{{ range list 2 true }}{{ sub 2 . }}{{ end }}", 4 + 4 + 4, api.ErrKind}, {"{{ $y := $x }}", 2, api.ErrName},
		{"{{ . }}x{{ 1 }}", 3, api.ErrSize}, {"{{ . }}{{ 1 }}", 4, api.ErrSize}, {"x{{ . }}", 3, api.ErrSize}, {"{{ . }}{{ print 1 2 }}", 6, api.ErrSize}, {"{{ print . 1 }}", 4, api.ErrSize},
		{"{{ include }}", 2, api.ErrCall}, {"{{ include 1 2 }}", 4, api.ErrKind}, {`{{ include "d" 2 }}`, 4, api.ErrName}, {`{{ include "d" $x }}`, 4, api.ErrName},
		{`{{ include "d" . }}{{ define "d" }}{{ . }}x{{ 1 }}{{ end }}`, 4 + 3, api.ErrSize}, {`{{ define "d" }}{{ include "d" . }}{{ end }}{{ include "d" . }}`, 1 + 17*4, api.ErrDeep},
	} {
		takes(t, c.s, most, c.used, "", c.e)
	}
}

func TestFuelFarOut(t *testing.T) {
	_, l := read(t, "{{ 1 }}")
	for _, fuel := range []int{math.MinInt, -10001, -1, 0} {
		wantRun(t, nil, l, null(), fuel, "", 0, api.ErrFuel)
		wantRun(t, nil, nil, null(), fuel, "", 0, api.OK)
	}
	for _, fuel := range []int{api.MaxFuel, api.MaxFuel + 1, 2 * api.MaxFuel, math.MaxInt} {
		wantRun(t, nil, l, null(), fuel, "1", api.MaxFuel-2, api.OK)
		wantRun(t, nil, nil, null(), fuel, "", api.MaxFuel, api.OK)
	}
	wantRun(t, nil, l, null(), api.MaxFuel-1, "1", api.MaxFuel-3, api.OK)
	wantRun(t, nil, []parse.Node{}, null(), 1, "", 1, api.OK)
}

func TestAllFuel(t *testing.T) {
	one := parse.Node{Kind: parse.Text, Text: "x"}
	l := slices.Repeat([]parse.Node{one}, api.MaxFuel)
	wantRun(t, nil, l, null(), math.MaxInt, xs(api.MaxFuel).Str, 0, api.OK)
	wantRun(t, nil, l, null(), api.MaxFuel-1, "", 0, api.ErrFuel)
	wantRun(t, nil, append(l, one), null(), math.MaxInt, "", 0, api.ErrFuel)
	// 2, 833 times 12, and 2.
	const all = "{{ range . }}{{ 1 }}{{ 1 }}{{ 1 }}{{ 1 }}{{ 1 }}{{ 1 }}{{ end }}{{ 1 }}"
	many := list(slices.Repeat([]api.Value{null()}, 833)...)
	gives(t, all, many, strings.Repeat("1", 833*6+1))
	fails(t, all+"x", many, api.ErrFuel)
	fails(t, all, list(slices.Repeat([]api.Value{null()}, 834)...), api.ErrFuel)
}

// What takes no fuel in a range doesn't make it go on for long.
func TestRangesOfMany(t *testing.T) {
	many := list(slices.Repeat([]api.Value{num(1)}, api.MaxNodes-1)...)
	_, l := read(t, "{{ range $i, $x := . }}{{ end }}")
	wantRun(t, nil, slices.Repeat(l, api.MaxFuel/2), many, api.MaxFuel, "", 0, api.OK)
	wantRun(t, nil, slices.Repeat(l, api.MaxFuel/2+1), many, api.MaxFuel, "", 0, api.ErrFuel)
	takesAll, _ := parse.Parse("{{ range . }}{{ . }}{{ end }}")
	wantRun(t, nil, takesAll, many, api.MaxFuel, strings.Repeat("1", api.MaxNodes-1), api.MaxFuel-2-2*(api.MaxNodes-1), api.OK)
}
