package trim_test

import (
	"fmt"
	"slices"
	"strings"
	"testing"

	"mizzen/api"
	"mizzen/sample"
	"mizzen/trim"
)

func text(s string, at int) trim.Token { return trim.Token{S: s, At: at} }

func action(s string, at int) trim.Token { return trim.Token{Action: true, S: s, At: at} }

func tokens(l ...trim.Token) []trim.Token { return l }

// wantSplit tells, if a template's tokens are others.
func wantSplit(t *testing.T, s string, want []trim.Token) {
	t.Helper()
	if got, e := trim.Split(s); e != api.OK || !slices.Equal(got, want) {
		t.Errorf("Split(%.200q) = %.200s, %d, want %.200s", s, fmt.Sprint(got), e, fmt.Sprint(want))
	}
}

// wantWrong tells, if something else is wrong with a template.
func wantWrong(t *testing.T, s string, wrong api.Errno) {
	t.Helper()
	if got, e := trim.Split(s); e != wrong || len(got) > 0 {
		t.Errorf("Split(%.200q) = %.200s, %d, want error %d", s, fmt.Sprint(got), e, wrong)
	}
}

func TestTextsAndActions(t *testing.T) {
	for _, c := range []struct {
		s    string
		want []trim.Token
	}{
		{"a {{- x -}} b", tokens(text("a", 0), action("x", 2), text("b", 12))},
		{"", nil},
		{"a", tokens(text("a", 0))},
		{" \t\n", tokens(text(" \t\n", 0))},
		{"{{x}}", tokens(action("x", 0))},
		{"{{ x }}", tokens(action("x", 0))},
		{"{{\n\t x y\t\n}}", tokens(action("x y", 0))},
		{"{{\rx\r}}", tokens(action("\rx\r", 0))},
		{"{{}}", tokens(action("", 0))},
		{"{{ \t\n }}", tokens(action("", 0))},
		{"a{{x}}b", tokens(text("a", 0), action("x", 1), text("b", 6))},
		{" {{x}} {{y}} ", tokens(text(" ", 0), action("x", 1), text(" ", 6), action("y", 7), text(" ", 12))},
		{"{{x}}{{y}}", tokens(action("x", 0), action("y", 5))},
		{"é{{é}}\xff", tokens(text("é", 0), action("é", 2), text("\xff", 8))},
		{"a}}b", tokens(text("a}}b", 0))},
		{"a{b}}", tokens(text("a{b}}", 0))},
		{"a{ {b", tokens(text("a{ {b", 0))},
		{"{{{x}}}", tokens(action("{x", 0), text("}", 6))},
		{"{{{{x}}}}", tokens(action("{{x", 0), text("}}", 7))},
		{"{{a}b}}", tokens(action("a}b", 0))},
		{"{{a} }}", tokens(action("a}", 0))},
		{"{{a}}}}{{b}}", tokens(action("a", 0), text("}}", 5), action("b", 7))},
	} {
		wantSplit(t, c.s, c.want)
	}
}

func TestQuotesInActions(t *testing.T) {
	for _, c := range []struct {
		s    string
		want []trim.Token
	}{
		{`{{"}}"}}`, tokens(action(`"}}"`, 0))},
		{`{{ "a}}b" }}c`, tokens(action(`"a}}b"`, 0), text("c", 12))},
		{`{{"\"}}"}}`, tokens(action(`"\"}}"`, 0))},
		{`{{"\\"}}"}}`, tokens(action(`"\\"`, 0), text(`"}}`, 8))},
		{`{{"\\\"}}"}}`, tokens(action(`"\\\"}}"`, 0))},
		{`{{"\}}"}}`, tokens(action(`"\}}"`, 0))},
		{`{{"a"}}"}}`, tokens(action(`"a"`, 0), text(`"}}`, 7))},
		{`{{"a""}}"}}`, tokens(action(`"a""}}"`, 0))},
		{`{{'}}'}}`, tokens(action(`'`, 0), text(`'}}`, 5))},
		{"{{`}}`}}", tokens(action("`", 0), text("`}}", 5))},
		{`{{\}}`, tokens(action(`\`, 0))},
		{`{{\"}}"}}`, tokens(action(`\"}}"`, 0))},
		{"{{\"\n}}\"}}", tokens(action("\"\n}}\"", 0))},
		{`"{{x}}"`, tokens(text(`"`, 0), action("x", 1), text(`"`, 6))},
		{`"\{{x}}`, tokens(text(`"\`, 0), action("x", 2))},
		{`{{"{{"}}`, tokens(action(`"{{"`, 0))},
	} {
		wantSplit(t, c.s, c.want)
	}
}

func TestTrimming(t *testing.T) {
	for _, c := range []struct {
		s    string
		want []trim.Token
	}{
		{"a \t\n{{- x }} \t\nb", tokens(text("a", 0), action("x", 4), text(" \t\nb", 12))},
		{"a \t\n{{ x -}} \t\nb", tokens(text("a \t\n", 0), action("x", 4), text("b", 15))},
		{" a {{- x -}} b ", tokens(text(" a", 0), action("x", 3), text("b ", 13))},
		{"a {{-}} b", tokens(text("a", 0), action("", 2), text(" b", 7))},
		{"a {{- }} b", tokens(text("a", 0), action("", 2), text(" b", 8))},
		{"a {{ -}} b", tokens(text("a ", 0), action("", 2), text("b", 9))},
		{"a {{ - }} b", tokens(text("a ", 0), action("-", 2), text(" b", 9))},
		{"a {{- -}} b", tokens(text("a", 0), action("-", 2), text(" b", 9))},
		{"a {{-  -}} b", tokens(text("a", 0), action("", 2), text("b", 11))},
		{"a {{--}} b", tokens(text("a ", 0), action("--", 2), text(" b", 8))},
		{"a {{-x-}} b", tokens(text("a ", 0), action("-x-", 2), text(" b", 9))},
		{"a {{ - x - }} b", tokens(text("a ", 0), action("- x -", 2), text(" b", 13))},
		{"a {{-\tx\t-}} b", tokens(text("a ", 0), action("-\tx\t-", 2), text(" b", 11))},
		{"a {{-\nx\n-}} b", tokens(text("a ", 0), action("-\nx\n-", 2), text(" b", 11))},
		{"a {{- - x - -}} b", tokens(text("a", 0), action("- x -", 2), text("b", 16))},
		{"a {{-  \n\tx\t\n  -}} b", tokens(text("a", 0), action("x", 2), text("b", 18))},
		{"{{x -}} \n {{- y}}", tokens(action("x", 0), action("y", 10))},
		{"{{x -}} \n {{y}}", tokens(action("x", 0), action("y", 10))},
		{"{{x}} \n {{- y}}", tokens(action("x", 0), action("y", 8))},
		{" {{- x -}} ", tokens(action("x", 1))},
		{"a\r {{- x -}} \rb", tokens(text("a\r", 0), action("x", 3), text("\rb", 13))},
		{"a\u00a0{{- x -}}\u00a0b", tokens(text("a\u00a0", 0), action("x", 3), text("\u00a0b", 12))},
		{"{{x -}} {{y}} b", tokens(action("x", 0), action("y", 8), text(" b", 13))},
		{"a {{x}} {{- y}}", tokens(text("a ", 0), action("x", 2), action("y", 8))},
		{`{{ "a -}} b`, nil},
	} {
		if c.want == nil {
			wantWrong(t, c.s, api.ErrClose)
			continue
		}
		wantSplit(t, c.s, c.want)
	}
}

func TestComments(t *testing.T) {
	for _, c := range []struct {
		s    string
		want []trim.Token
	}{
		{"{{/**/}}", nil},
		{"{{/* a */}}", nil},
		{"{{ \n/* a\nb */\t }}", nil},
		{"a {{/* x */}} b", tokens(text("a ", 0), text(" b", 13))},
		{"a {{- /* x */ -}} b", tokens(text("a", 0), text("b", 18))},
		{"a {{- /* x */}} b", tokens(text("a", 0), text(" b", 15))},
		{"a {{/* x */ -}} b", tokens(text("a ", 0), text("b", 16))},
		{"{{/*/}}", tokens(action("/*/", 0))},
		{"{{/*}}", tokens(action("/*", 0))},
		{"{{*/}}", tokens(action("*/", 0))},
		{"{{/* a}}", tokens(action("/* a", 0))},
		{"{{a */}}", tokens(action("a */", 0))},
		{"{{/* a */ b}}", tokens(action("/* a */ b", 0))},
		{"{{a /* b */}}", tokens(action("a /* b */", 0))},
		{"{{/* a */ b /* c */}}", nil},
		{"{{/* }} */}}", tokens(action("/*", 0), text(" */}}", 7))},
		{`{{/* "}}" */}}`, nil},
		{"{{- /* a */-}}b", tokens(action("/* a */-", 0), text("b", 14))},
	} {
		wantSplit(t, c.s, c.want)
	}
}

func TestActionsThatAreNotClosed(t *testing.T) {
	for _, s := range []string{
		"{{", "a{{", "{{}", "{{x", "{{ x }", "{{ x } }", "{{x}}{{y", `{{"}}`, `{{"a\"}}`, `{{"a""}}`, `{{/* "x */}}`, "{{/* a */", "{{- ", "{{-", `{{"\`,
	} {
		wantWrong(t, s, api.ErrClose)
	}
}

func TestSize(t *testing.T) {
	full := strings.Repeat("x", api.MaxText)
	wantSplit(t, full, tokens(text(full, 0)))
	wantWrong(t, full+"x", api.ErrSize)
	wantWrong(t, "{{"+full, api.ErrSize)
	wantWrong(t, strings.Repeat(" ", api.MaxText+1), api.ErrSize)
	wantWrong(t, "{{/*"+full+"*/}}", api.ErrSize)
	inner := strings.Repeat("y", api.MaxText-4)
	wantSplit(t, "{{"+inner+"}}", tokens(action(inner, 0)))
	wantWrong(t, "{{"+inner+"y}", api.ErrClose)
	if l, e := trim.Split(strings.Repeat("{{}}", api.MaxText/4)); e != api.OK || len(l) != api.MaxText/4 {
		t.Errorf("%d actions, %d", len(l), e)
	}
}

func TestPlain(t *testing.T) {
	for s, want := range map[string]bool{
		"": true, "a": true, "{": true, "{ {": true, "}}": true, "{}{}": true,
		"{{": false, "a{{": false, "{{x}}": false, "{{{": false, `"{{"`: false,
	} {
		if trim.Plain(s) != want {
			t.Errorf("Plain(%q) = %t", s, !want)
		}
	}
}

func TestAPlainTextIsOneToken(t *testing.T) {
	for _, s := range sample.Texts(6, "{}- \"") {
		if !trim.Plain(s) {
			continue
		}
		want := tokens(text(s, 0))
		if s == "" {
			want = nil
		}
		wantSplit(t, s, want)
	}
}
