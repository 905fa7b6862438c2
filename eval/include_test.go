package eval_test

import (
	"strconv"
	"strings"
	"testing"

	"mizzen/api"
	"mizzen/eval"
	"mizzen/parse"
)

func TestInclude(t *testing.T) {
	dot := of("a", num(1), "b", of("a", num(2)))
	gives(t, `{{ define "d" }}<{{ .a }}>{{ end }}{{ include "d" . }}{{ include "d" .b }}{{ .b | include "d" }}`, dot, "<1><2><2>")
	gives(t, `{{ include "d" . }}{{ define "d" }}<{{ .a }}>{{ end }}`, dot, "<1>")
	gives(t, `{{ define "d" }}{{ end }}<{{ include "d" nil }}>`, dot, "<>")
	gives(t, `{{ define "d" }} x {{ end }}{{ include "d" nil | trim | upper | quote }}`, dot, `"X"`)
	gives(t, `{{ define "d" }}{{ . }}{{ end }}{{ include "d" (include "d" (include "d" 3)) }}`, dot, "3")
	gives(t, `{{ define "d" }}{{ . }}{{ end }}{{ add (int (include "d" 3)) 1 }}`, dot, "4")
	gives(t, `{{ define "d" }}[{{ include "e" .b }}]{{ end }}{{ define "e" }}{{ .a }}{{ end }}{{ include "d" . }}`, dot, "[2]")
	gives(t, `{{ define "d" }}{{ . }}{{ end }}{{ $n := print "d" }}{{ include $n 1 }}`, dot, "1")
	gives(t, `{{ define "print" }}{{ . }}{{ end }}{{ define "include" }}{{ . }}{{ end }}{{ print 1 }}{{ include "print" 2 }}{{ include "include" 3 }}`, dot, "123")
	gives(t, `{{ define "d" }}{{ range . }}{{ . }}{{ end }}{{ end }}{{ range list (list 1 2) (list 3) }}{{ include "d" . }};{{ end }}`, dot, "12;3;")
	gives(t, `{{ with include "d" . }}{{ . }}{{ else }}none{{ end }}{{ define "d" }}{{ end }}`, dot, "none")
	gives(t, `a{{ define "d" }}no{{ end }}b`, dot, "ab")
}

func TestAnIncludeHasVariablesOfItsOwn(t *testing.T) {
	fails(t, `{{ $x := 1 }}{{ define "d" }}{{ $x }}{{ end }}{{ include "d" . }}`, null(), api.ErrName)
	fails(t, `{{ define "d" }}{{ $x }}{{ end }}{{ range $x := list 1 }}{{ include "d" . }}{{ end }}`, null(), api.ErrName)
	fails(t, `{{ define "d" }}{{ $x := 1 }}{{ end }}{{ include "d" . }}{{ $x }}`, null(), api.ErrName)
	fails(t, `{{ define "d" }}{{ if . }}{{ $x }}{{ end }}{{ $x := 1 }}{{ if . }}{{ else }}{{ include "d" 1 }}{{ end }}{{ end }}{{ include "d" 0 }}`, null(), api.ErrName)
	gives(t, `{{ $x := 1 }}{{ define "d" }}{{ $x := 2 }}{{ $x }}{{ end }}{{ $x }}{{ include "d" . }}{{ $x }}`, null(), "121")
	gives(t, `{{ $x := 1 }}{{ define "d" }}{{ . }}{{ end }}{{ if true }}{{ $x := 2 }}{{ include "d" $x }}{{ end }}{{ include "d" $x }}`, null(), "21")
}

func TestWhatIsWrongWithAnInclude(t *testing.T) {
	const d = `{{ define "d" }}{{ . }}{{ end }}`
	for s, e := range map[string]api.Errno{
		"include": api.ErrCall, `include "d"`: api.ErrCall, `include "d" 1 2`: api.ErrCall, "include 1": api.ErrCall, `"d" | include`: api.ErrCall, `include "nope"`: api.ErrCall,
		"include 1 2": api.ErrKind, "include nil 1": api.ErrKind, "include true 1": api.ErrKind, "include (list) 1": api.ErrKind, "include (dict) 1": api.ErrKind,
		`include "nope" 1`: api.ErrName, `include "" 1`: api.ErrName, `include "D" 1`: api.ErrName, `include "d " 1`: api.ErrName, `include "print" 1`: api.ErrName, `include "include" 1`: api.ErrName,
		"include (add 1 true)": api.ErrKind, "include $x": api.ErrName, `include 1 (add 1)`: api.ErrCall, `include "nope" (add 1)`: api.ErrCall,
		`include "d" (nope)`: api.ErrName,
	} {
		fails(t, d+"a{{ "+s+" }}", null(), e)
	}
	fails(t, `{{ include "d" 1 }}{{ define "d" }}{{ range . }}{{ end }}{{ end }}`, null(), api.ErrKind)
	fails(t, `{{ include "d" 1 }}{{ define "d" }}{{ include "e" . }}{{ end }}`, null(), api.ErrName)
}

// chain is a template in which so many includes run in each other, the last of a template that has this.
func chain(n int, last string) string {
	var s strings.Builder
	for i := range n - 1 {
		s.WriteString(`{{ define "d` + strconv.Itoa(i) + `" }}{{ include "d` + strconv.Itoa(i+1) + `" . }}{{ end }}`)
	}
	s.WriteString(`{{ define "d` + strconv.Itoa(n-1) + `" }}` + last + `{{ end }}{{ include "d0" . }}`)
	return s.String()
}

func TestSoManyIncludesRunInEachOther(t *testing.T) {
	for n := 1; n <= api.MaxCalls; n++ {
		gives(t, chain(n, "x"), null(), "x")
		gives(t, chain(n, "x")+chain(1, "y")[len(`{{ define "d0" }}y{{ end }}`):], null(), "xx")
	}
	fails(t, chain(api.MaxCalls+1, "x"), null(), api.ErrDeep)
	fails(t, chain(api.MaxCalls, `{{ include 1 }}`), null(), api.ErrCall)
	fails(t, chain(api.MaxCalls, `{{ include 1 2 }}`), null(), api.ErrKind)
	fails(t, chain(api.MaxCalls, `{{ include "nope" 2 }}`), null(), api.ErrName)
	fails(t, chain(api.MaxCalls, `{{ include "d0" $x }}`), null(), api.ErrName)
	fails(t, chain(api.MaxCalls, `{{ include "d0" 2 }}`), null(), api.ErrDeep)
	fails(t, chain(api.MaxCalls, `{{ include "d0" (add 1 true) }}`), null(), api.ErrKind)
	fails(t, `{{ define "d" }}{{ include "d" . }}{{ end }}{{ include "d" . }}`, null(), api.ErrDeep)
	fails(t, `{{ define "d" }}{{ include "e" . }}{{ end }}{{ define "e" }}x{{ include "d" . }}{{ end }}{{ include "d" . }}`, null(), api.ErrDeep)
}

// Only those that are running are counted, neither those that ran nor those whose value is handed in.
func TestIncludesThatRanAreNotCounted(t *testing.T) {
	const down = `{{ define "d" }}{{ if . }}{{ . }} {{ include "d" (sub . 1) }}{{ end }}{{ end }}`
	gives(t, down+`{{ include "d" 15 }}`, null(), "15 14 13 12 11 10 9 8 7 6 5 4 3 2 1 ")
	fails(t, down+`{{ include "d" 16 }}`, null(), api.ErrDeep)
	gives(t, down+strings.Repeat(`{{ include "d" 2 }}`, 100), null(), strings.Repeat("2 1 ", 100))
	const same = `{{ define "s" }}{{ . }}{{ end }}`
	gives(t, same+"{{ 1"+strings.Repeat(` | include "s"`, 100)+" }}", null(), "1")
	gives(t, same+chain(api.MaxCalls, `{{ . }}`), num(7), "7")
	gives(t, same+`{{ define "d0" }}{{ include "s" (include "s" (include "s" .)) }}{{ end }}{{ include "d0" 1 }}`, null(), "1")
}

func TestTexts65536BytesLong(t *testing.T) {
	most := xs(api.MaxText)
	gives(t, "{{ . }}", most, most.Str)
	gives(t, "{{ . }}{{ nil }}{{ print }}", most, most.Str)
	fails(t, "{{ . }}x", most, api.ErrSize)
	fails(t, "x{{ . }}", most, api.ErrSize)
	fails(t, "{{ . }}{{ 1 }}", most, api.ErrSize)
	gives(t, "x{{ . }}", xs(api.MaxText-1), most.Str)
	gives(t, "{{ . }}x", xs(api.MaxText-1), most.Str)
	gives(t, "{{ range list 1 2 3 4 }}{{ $x := . }}{{ end }}{{ if true }}{{ . }}{{ end }}x", xs(api.MaxText-1), most.Str)
	fails(t, "{{ if true }}{{ . }}{{ end }}x{{ if true }}x{{ end }}", xs(api.MaxText-1), api.ErrSize)
	fails(t, "{{ range list . . }}{{ . }}{{ end }}", xs(api.MaxText/2+1), api.ErrSize)
	gives(t, "{{ range list . . }}{{ . }}{{ end }}", xs(api.MaxText/2), most.Str)
	gives(t, strings.Repeat("x", api.MaxText), null(), most.Str)
	fails(t, strings.Repeat("x", api.MaxText+1), null(), api.ErrSize)
	fails(t, "{{ . }}{{ . }}{{ $x }}", most, api.ErrSize)
	fails(t, "{{ . }}{{ $x }}{{ . }}", most, api.ErrName)
}

func TestIncludes65536BytesLong(t *testing.T) {
	most := xs(api.MaxText)
	const d = `{{ define "d" }}{{ . }}x{{ end }}`
	gives(t, d+`{{ include "d" . }}`, xs(api.MaxText-1), most.Str)
	gives(t, d+`{{ len (include "d" .) }}{{ len (include "d" .) }}`, xs(api.MaxText-1), "6553665536")
	fails(t, d+`{{ include "d" . }}x`, xs(api.MaxText-1), api.ErrSize)
	fails(t, d+`{{ include "d" . }}{{ include "d" nil }}`, xs(api.MaxText-1), api.ErrSize)
	fails(t, d+`{{ include "d" . }}`, most, api.ErrSize)
	fails(t, d+`{{ $x := include "d" . }}`, most, api.ErrSize)
	fails(t, d+`{{ len (include "d" .) }}`, most, api.ErrSize)
	fails(t, d+`{{ if include "d" . }}{{ $x }}{{ end }}`, most, api.ErrSize)
	gives(t, `{{ define "d" }}{{ len . }}{{ end }}{{ . | include "d" }}`, most, "65536")
}

func TestRunHasTheTemplatesThatAreHandedIn(t *testing.T) {
	_, l := read(t, `{{ define "d" }}in{{ end }}{{ include "d" 1 }}`)
	if s, left, e := eval.Run(nil, l, null(), 100); s != "" || e != api.ErrName || left != 95 {
		t.Errorf("without it: %q, %d, %d", s, left, e)
	}
	other := eval.Defs{"d": {{Kind: parse.Text, Text: "out"}}}
	if s, left, e := eval.Run(other, l, null(), 100); s != "out" || e != api.OK || left != 94 {
		t.Errorf("with another one: %q, %d, %d", s, left, e)
	}
	_, l = read(t, `<{{ include "" 1 }}{{ include "a b" 1 }}>`)
	if s, _, e := eval.Run(eval.Defs{"": nil, "a b": {}}, l, null(), 100); s != "<>" || e != api.OK {
		t.Errorf("of no nodes: %q, %d", s, e)
	}
}
