package chart_test

import (
	"regexp"
	"strings"
	"testing"

	"mizzen/api"
	"mizzen/chart"
	"mizzen/sample"
)

func TestName(t *testing.T) {
	for s, want := range map[string]bool{
		"Chart.yaml": true, "values.yaml": true, "templates/a.yaml": true, "templates/_a.tpl": true, "_a": true, "_a/_b/c": true, "a/b/c/d/e": true, "a-b_c.d/Z9": true, "a.": true, "a_": true, "templates": true, "Null": true, "true.yaml": true, "a/nulls": true,
		"": false, "/": false, "/a": false, "a/": false, "a//b": false, "_": false, "a/_": false, "_/a": false, "__a": false, "a/__b": false, "1": false, "a/1": false, "_1": false, "-a": false, ".": false, "..": false, "../a": false, "a/../b": false, "./a": false, ".git": false, "a/.b": false,
		"null": false, "true": false, "false": false, "_null": false, "a/null": false, "null/a": false, "a/true/b": false, "_false/a": false,
		"a b": false, " a": false, "a ": false, "a\n": false, "a\t": false, `a\b`: false, "a:b": false, "~": false, "é": false, "aé": false, "a\x00": false, "a\xff": false, "a/\xff": false, `"a"`: false,
	} {
		if got := chart.Name(s); got != want {
			t.Errorf("Name(%q): %v", s, got)
		}
	}
}

func TestNames256BytesLong(t *testing.T) {
	for _, part := range []string{"x", "a/", "_a/"} {
		most := strings.Repeat(part, api.MaxKey)[:api.MaxKey-1] + "x"
		if !chart.Name(most) || chart.Name(most+"x") {
			t.Errorf("names of %q: %v, %v", part, chart.Name(most), chart.Name(most+"x"))
		}
	}
	if chart.Name(xs(1 << 20)) {
		t.Error("a name of 2^20 bytes")
	}
}

func TestAnyTextAsAName(t *testing.T) {
	words := regexp.MustCompile(`^_?[A-Za-z][A-Za-z0-9_.-]*(/_?[A-Za-z][A-Za-z0-9_.-]*)*$`)
	none := regexp.MustCompile(`(^|/)_?(null|true|false)(/|$)`)
	is := func(s string) bool { return words.MatchString(s) && !none.MatchString(s) }
	for _, s := range sample.Texts(5, "aZ_/.-1 \n") {
		if got := chart.Name(s); got != is(s) {
			t.Errorf("Name(%q): %v", s, got)
		}
		if got := chart.Name("null" + s + "true"); got != is("null"+s+"true") {
			t.Errorf("Name of null, %q, true: %v", s, got)
		}
	}
	for b := range 256 {
		for _, s := range []string{string([]byte{byte(b)}), "_" + string([]byte{byte(b)}), "a" + string([]byte{byte(b)}), "a" + string([]byte{byte(b)}) + "a", "a/" + string([]byte{byte(b)}) + "a"} {
			if got := chart.Name(s); got != is(s) {
				t.Errorf("Name(%q): %v", s, got)
			}
		}
	}
}

func TestPartial(t *testing.T) {
	for s, want := range map[string]bool{
		"templates/_a.tpl": true, "templates/b/_a": true, "_a": true, "_": true, "a/_": true, "/_": true, "templates/_a/_b": true, "__": true,
		"templates/a.tpl": false, "templates/_b/a": false, "_a/b": false, "a_": false, "a/b_": false, "": false, "/": false, "_/": false, "a": false, "templates/a_b": false, " _a": false, "a/ _b": false,
	} {
		if got := chart.Partial(s); got != want {
			t.Errorf("Partial(%q): %v", s, got)
		}
	}
}
