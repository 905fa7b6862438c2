package chart_test

import (
	"strings"
	"testing"

	"mizzen/api"
	"mizzen/chart"
	"mizzen/tree"
)

func TestRun(t *testing.T) {
	gives(t, made(t, with("templates/a.yaml", "{{ .x }}")...), of("x", num(1)), "templates/a.yaml", "1")
	gives(t, made(t, with()...), of("x", num(1)))
	gives(t, made(t, with("templates/_a", "{{ required 1 nil }}", "templates/b/_c", "{{ $x }}")...), tree.Null())
	gives(t, made(t, with("templates/b", "2{{ . }}", "templates/_a", "no", "templates/c/d", "5{{ . }}", "templates/_x/e", "1{{ . }}", "templates/c", "3{{ . }}", "README", "no", "templates/c.x", "4{{ . }}", "templates/f", "")...), str("!"),
		"templates/_x/e", "1!", "templates/b", "2!", "templates/c", "3!", "templates/c.x", "4!", "templates/c/d", "5!", "templates/f", "")
}

func TestRunHasItsValueAlone(t *testing.T) {
	c := made(t, with("values.yaml", "x: 1", "templates/a", "<{{ .x }}{{ .Values.x }}{{ .name }}>", "templates/b", "<{{ . }}>")...)
	gives(t, c, tree.Null(), "templates/a", "<>", "templates/b", "<>")
	gives(t, c, of("x", num(2), "Values", of("x", num(3))), "templates/a", "<23>", "templates/b", "<{}>")
	gives(t, c, tree.List(num(1)), "templates/a", "<>", "templates/b", "<[]>")
}

func TestRunHasWhatAllTemplatesDefine(t *testing.T) {
	c := made(t, with(
		"templates/a", `{{ define "own" }}own{{ end }}{{ include "own" . }} {{ include "part" . }} {{ include "later" . }}`,
		"templates/_p", `no{{ define "part" }}<{{ include "own" . }}{{ .x }}>{{ end }}`,
		"templates/z", `{{ define "later" }}({{ include "part" . }}){{ end }}{{ include "own" . }}`,
	)...)
	gives(t, c, of("x", num(1)), "templates/a", "own <own1> (<own1>)", "templates/z", "own")
	gives(t, made(t, with("templates/a", `{{ $x := 1 }}{{ $x }}`, "templates/b", `{{ define "d" }}{{ . }}{{ end }}b`)...), num(1), "templates/a", "1", "templates/b", "b")
	fails(t, made(t, with("templates/a", `{{ $x := 1 }}{{ $x }}`, "templates/b", `{{ $x }}`)...), num(1), "templates/b", api.ErrName)
	fails(t, made(t, with("templates/a", `{{ include "d" . }}`, "README", `{{ define "d" }}{{ end }}`)...), num(1), "templates/a", api.ErrName)
}

func TestWrongRuns(t *testing.T) {
	for s, want := range map[string]api.Errno{
		"{{ nope }}": api.ErrName, "{{ $x }}": api.ErrName, `{{ include "x" . }}`: api.ErrName, "{{ add 1 }}": api.ErrCall, "{{ include . }}": api.ErrCall, `{{ range "a" }}{{ end }}`: api.ErrKind, "{{ add . 1 }}": api.ErrKind, `{{ required "why" nil }}`: api.ErrArg, "{{ mul 4294967296 4294967296 }}": api.ErrOver,
		`{{ define "d" }}{{ include "d" . }}{{ end }}{{ include "d" . }}`: api.ErrDeep,
	} {
		fails(t, made(t, with("templates/a", "x", "templates/c", "{{ $x }}", "templates/b", s)...), str("x"), "templates/b", want)
	}
}

func TestTheFirstWrongTemplateIsTold(t *testing.T) {
	c := made(t, with("templates/c", "{{ add 1 }}", "templates/b", "{{ nope }}", "templates/_a", "{{ add . }}", "templates/a", "{{ if . }}{{ len true }}{{ end }}")...)
	fails(t, c, num(0), "templates/b", api.ErrName)
	fails(t, c, num(1), "templates/a", api.ErrKind)
	c = made(t, with("templates/_x/c", "{{ add 1 }}", "templates/b", "{{ nope }}")...)
	fails(t, c, num(0), "templates/_x/c", api.ErrCall)
}

// turns is a template that takes so much of the fuel, an even number of it.
func turns(fuel int) string { return strings.Repeat("{{.}}", fuel/2) }

func TestEachTemplateHasAllFuel(t *testing.T) {
	most := turns(api.MaxFuel)
	c := made(t, with("templates/a", most, "templates/b", most, "templates/c", most)...)
	all := strings.Repeat("1", api.MaxFuel/2)
	for range 2 {
		gives(t, c, num(1), "templates/a", all, "templates/b", all, "templates/c", all)
	}
	fails(t, made(t, with("templates/a", most, "templates/b", most+"x", "templates/c", most)...), num(1), "templates/b", api.ErrFuel)
	const d = `{{ define "d" }}{{ . }}{{ end }}`
	more := d + `{{ include "d" 1 }}`
	gives(t, made(t, with("templates/_a", d, "templates/b", `{{ include "d" 1 }}`+turns(api.MaxFuel-6))...), num(1), "templates/b", "1"+all[3:])
	fails(t, made(t, with("templates/b", more+turns(api.MaxFuel-6))...), num(1), "templates/b", api.ErrFuel)
}

func TestEachTemplateComesTo65536Bytes(t *testing.T) {
	most := xs(api.MaxText)
	c := made(t, with("templates/a", "{{ . }}", "templates/b", most, "templates/c", "{{ . }}")...)
	gives(t, c, str(most), "templates/a", most, "templates/b", most, "templates/c", most)
	fails(t, made(t, with("templates/a", "{{ . }}", "templates/b", "{{ . }}x")...), str(most), "templates/b", api.ErrSize)
}

func TestRunOfNoChart(t *testing.T) {
	var c *chart.Chart
	fails(t, c, num(1), "", api.ErrNil)
	fails(t, c, api.Value{Kind: 99}, "", api.ErrNil)
	gives(t, &chart.Chart{}, num(1))
}
