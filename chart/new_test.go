package chart_test

import (
	"strconv"
	"strings"
	"testing"

	"mizzen/api"
	"mizzen/tree"
)

// shows tells, if a chart isn't as it should be.
func shows(t *testing.T, l []api.File, name, version string, values api.Value, templates ...string) {
	t.Helper()
	c := made(t, l...)
	if c.Name != name || c.Version != version || told(c.Values) != told(values) || told(c.Templates) != told(files(templates...)) {
		t.Errorf("New(%.300s) is %.300s", told(l), seen(c))
	}
}

func TestNewShowsWhatFilesTell(t *testing.T) {
	shows(t, files("Chart.yaml", about), "web", "v1", of())
	shows(t, with("values.yaml", "a: 1\nb: {c: [x]}\n", "templates/a.yaml", "{{ .x }}"), "web", "v1", of("a", num(1), "b", of("c", tree.List(str("x")))), "templates/a.yaml", "{{ .x }}")
	shows(t, files("templates/b", "2", "values.yaml", "a: 1", "templates/B", "1", "templates/a/c", "4", "templates/a", "3", "Chart.yaml", about, "templates/_d", "5", "templates/a.x", "6"), "web", "v1", of("a", num(1)),
		"templates/B", "1", "templates/_d", "5", "templates/a", "3", "templates/a.x", "6", "templates/a/c", "4", "templates/b", "2")
}

func TestChartsNameAndVersion(t *testing.T) {
	for s, want := range map[string][2]string{
		"name: web\nversion: v1\n":                     {"web", "v1"},
		"version: \"1\"\nname: 'a'\nmore: [1, {b: 2}]": {"a", "1"},
		"{name: a/b.c-d_E9, version: 1.2.3}":           {"a/b.c-d_E9", "1.2.3"},
		"# a chart\nname: a # it\n\nversion: 1 2":      {"a", "1 2"},
		"name: a\nversion: \" \"":                      {"a", " "},
		"name: Null\nversion: \"null\"":                {"Null", "null"},
		"name: a\nversion: \"\\n\"":                    {"a", "\n"},
	} {
		shows(t, files("Chart.yaml", s), want[0], want[1], of())
	}
}

func TestChartsThatAreNone(t *testing.T) {
	for _, s := range []string{
		"", "# name: a", "a", "1", "[]", "[name, version]", "- name: a\n  version: v1", "{}", "name: a", "version: v1", "Name: a\nVersion: v1", "a: {name: a, version: v1}",
		"name:\nversion: v1", "name: \"\"\nversion: v1", "name: 1\nversion: v1", "name: true\nversion: v1", "name: \"true\"\nversion: v1", "name: \"null\"\nversion: v1", "name: a b\nversion: v1", "name: \"1\"\nversion: v1", "name: _a\nversion: v1", "name: [a]\nversion: v1", "name: {a: b}\nversion: v1", "name: \"a\\n\"\nversion: v1", "name: \" a\"\nversion: v1",
		"name: a\nversion:", "name: a\nversion: \"\"", "name: a\nversion: ''", "name: a\nversion: 1", "name: a\nversion: 0", "name: a\nversion: false", "name: a\nversion: true", "name: a\nversion: [v1]", "name: a\nversion: {v: 1}", "name: a\nversion: ~",
	} {
		refused(t, files("Chart.yaml", s), "Chart.yaml", api.ErrChart)
	}
}

func TestNameAndVersionOf256Bytes(t *testing.T) {
	for _, name := range []int{1, 100, 128, 255} {
		s := "name: " + xs(name) + "\nversion: " + xs(api.MaxKey-name)
		shows(t, files("Chart.yaml", s), xs(name), xs(api.MaxKey-name), of())
		refused(t, files("Chart.yaml", s+"x"), "Chart.yaml", api.ErrChart)
		refused(t, files("Chart.yaml", "name: x"+s[len("name: "):]), "Chart.yaml", api.ErrChart)
	}
	refused(t, files("Chart.yaml", "name: "+xs(256)+"\nversion: \"\""), "Chart.yaml", api.ErrChart)
}

func TestChartsOwnValues(t *testing.T) {
	for s, want := range map[string]api.Value{
		"": of(), "# none\n": of(), "~": of(), "null": of(), "{}": of(), "{} # none": of(), "a:": of("a", tree.Null()), "a: 1\nb: x": of("a", num(1), "b", str("x")), "{a: {b: []}}": of("a", of("b", tree.List())),
	} {
		shows(t, with("values.yaml", s), "web", "v1", want)
	}
	for _, s := range []string{"[]", "- a", "a", "1", "0", "true", "false", `""`, `"{}"`} {
		refused(t, with("values.yaml", s), "values.yaml", api.ErrKind)
	}
}

func TestOtherFilesArePassedOver(t *testing.T) {
	wrong := "{{ ] \t: \xff"
	shows(t, with("README.md", wrong, "templates", wrong, "Templates/a", wrong, "templates.x/a", wrong, "a/templates/b", wrong, "charts/a/Chart.yaml", wrong, "charts/a/values.yaml", wrong, "chart.yaml", wrong, "Chart.yml", wrong, "Values.yaml", wrong, "values.yml", wrong, "_templates/a", wrong, "a/Chart.yaml", wrong), "web", "v1", of())
	shows(t, with("templates/Chart.yaml", "a", "templates/values.yaml", "[b"), "web", "v1", of(), "templates/Chart.yaml", "a", "templates/values.yaml", "[b")
}

func TestWrongFiles(t *testing.T) {
	for _, c := range []struct {
		name, text string
		wrong      api.Errno
	}{
		{"Chart.yaml", "name: a\n\tversion: v1", api.ErrIndent},
		{"Chart.yaml", "name: a\nname: a\nversion: v1", api.ErrTwice},
		{"Chart.yaml", "name: \"a\nversion: v1", api.ErrQuote},
		{"Chart.yaml", "name: 9223372036854775808\nversion: v1", api.ErrOver},
		{"Chart.yaml", "name: a\nversion", api.ErrForm},
		{"Chart.yaml", "name: a\nversion: \xff", api.ErrForm},
		{"values.yaml", "\ta: 1", api.ErrIndent},
		{"values.yaml", "a: 1\na: 2", api.ErrTwice},
		{"values.yaml", "a: '1", api.ErrQuote},
		{"values.yaml", "[1", api.ErrForm},
		{"values.yaml", strings.Repeat("[", 17) + strings.Repeat("]", 17), api.ErrDeep},
		{"values.yaml", "[" + strings.Repeat("1,", 4095) + "1]", api.ErrSize},
		{"templates/a", "{{", api.ErrClose},
		{"templates/a", "{{ end }}", api.ErrClose},
		{"templates/a", "{{ # }}", api.ErrToken},
		{"templates/a", "{{ \"\\x\" }}", api.ErrQuote},
		{"templates/a", "{{ 9223372036854775808 }}", api.ErrOver},
		{"templates/a", `{{ define "1" }}{{ end }}`, api.ErrName},
		{"templates/a", strings.Repeat("{{ if . }}", 17) + strings.Repeat("{{ end }}", 17), api.ErrDeep},
		{"templates/_a", "{{ if . }}", api.ErrClose},
		{"templates/a/b/c", "{{ . . }}", api.ErrToken},
	} {
		l := files(c.name, c.text)
		if c.name != "Chart.yaml" {
			l = with(c.name, c.text)
		}
		refused(t, l, c.name, c.wrong)
	}
}

func TestOneNameIsDefinedTwice(t *testing.T) {
	const x, y = `{{ define "x" }}1{{ end }}`, `{{ define "y" }}1{{ end }}`
	refused(t, with("templates/a", x+x), "templates/a", api.ErrTwice)
	refused(t, with("templates/_a", x+y+x), "templates/_a", api.ErrTwice)
	refused(t, with("templates/a", x, "templates/b", x), "templates/b", api.ErrTwice)
	refused(t, with("templates/b", x, "templates/a", x), "templates/b", api.ErrTwice)
	refused(t, with("templates/_c", x, "templates/b", y, "templates/d", y+x), "templates/d", api.ErrTwice)
	refused(t, with("templates/a", x, "templates/b", y, "templates/c", "", "templates/d", y, "templates/e", x), "templates/d", api.ErrTwice)
	refused(t, with("templates/a", x, "templates/b", x+"{{"), "templates/b", api.ErrClose)
	made(t, with("templates/a", x, "templates/b", y, "README", x, "templates/c", `{{ define "X" }}{{ end }}`)...)
}

func TestThereIsNoChartFile(t *testing.T) {
	for _, l := range [][]api.File{nil, {}, files("values.yaml", "a: 1"), files("templates/a", "x", "templates/Chart.yaml", about), files("chart.yaml", about), files("a/Chart.yaml", about)} {
		refused(t, l, "Chart.yaml", api.ErrNone)
	}
}

// many are so many files, Chart.yaml the first of them.
func many(n int) []api.File {
	l := with()
	for i := 1; i < n; i++ {
		l = append(l, api.File{Name: "templates/a" + strconv.Itoa(i), Text: "x"})
	}
	return l
}

func Test32Files(t *testing.T) {
	if c := made(t, many(api.MaxFiles)...); len(c.Templates) != api.MaxFiles-1 {
		t.Errorf("%d templates", len(c.Templates))
	}
	refused(t, many(api.MaxFiles+1), "", api.ErrSize)
	refused(t, append(many(api.MaxFiles), files("README", "")...), "", api.ErrSize)
}

func TestFilesOf65536Bytes(t *testing.T) {
	most := "#" + xs(api.MaxText-1)
	for _, name := range []string{"values.yaml", "templates/a", "templates/_a", "README"} {
		made(t, with(name, most)...)
		refused(t, with(name, most+"x"), name, api.ErrSize)
	}
	whole := about + most[:api.MaxText-len(about)]
	made(t, files("Chart.yaml", whole)...)
	refused(t, files("Chart.yaml", whole+"x"), "Chart.yaml", api.ErrSize)
}

func TestNamesThatAreNone(t *testing.T) {
	for _, name := range []string{"", "/", "a b", "templates/", "templates/1", "/Chart.yaml", "templates//a", "__a", "null", "\xff", xs(api.MaxKey + 1)} {
		refused(t, with(name, ""), name, api.ErrName)
		refused(t, files(name, ""), name, api.ErrName)
	}
	made(t, with(xs(api.MaxKey), "")...)
}

func TestOneNameTwice(t *testing.T) {
	for _, name := range []string{"values.yaml", "templates/a", "README"} {
		refused(t, with(name, "", name, ""), name, api.ErrTwice)
		refused(t, with(name, "", "b", "", name, "a: 1"), name, api.ErrTwice)
	}
	refused(t, files("Chart.yaml", about, "Chart.yaml", about), "Chart.yaml", api.ErrTwice)
	made(t, with("a", "", "A", "", "_a", "", "a/a", "")...)
}

func TestTheFirstWrongFileIsTold(t *testing.T) {
	long := xs(api.MaxText + 1)
	for _, c := range []struct {
		l     []api.File
		name  string
		wrong api.Errno
	}{
		{append(many(api.MaxFiles), files("1", long)...), "", api.ErrSize},
		{append(files("1", long), many(api.MaxFiles)...), "", api.ErrSize},
		{files("1", long), "1", api.ErrName},
		{files("1", "", "1", ""), "1", api.ErrName},
		{files("a", "", "a", long), "a", api.ErrSize},
		{files("a", long, "1", ""), "a", api.ErrSize},
		{files("1", "", "a", long), "1", api.ErrName},
		{files("b", "", "b", "", "a", long), "b", api.ErrTwice},
		{files("z", long, "a", long), "z", api.ErrSize},
		{files("Chart.yaml", "[", "a", "", "a", ""), "a", api.ErrTwice},
		{files("Chart.yaml", "[", "a", "", "1", ""), "1", api.ErrName},
		{files("templates/a", "{{", "a", long), "a", api.ErrSize},
		{files("values.yaml", "[", "templates/b", "{{", "templates/a", "{{ end", "Chart.yaml", "{"), "Chart.yaml", api.ErrForm},
		{files("values.yaml", "[", "templates/b", "{{", "templates/a", "{{ # }}", "Chart.yaml", "{}"), "Chart.yaml", api.ErrChart},
		{with("values.yaml", "[", "templates/b", "{{", "templates/a", "{{ # }}"), "templates/a", api.ErrToken},
		{with("values.yaml", "[", "templates/b", "{{", "templates/a", ""), "templates/b", api.ErrClose},
		{with("values.yaml", "[]", "templates/b", "", "templates/_a", `{{define "x"}}{{end}}{{define "x"}}{{end}}`), "templates/_a", api.ErrTwice},
		{with("templates/a", `{{define "x"}}{{end}}{{define "x"}}{{end}}`, "templates/b", "{{"), "templates/a", api.ErrTwice},
		{files("values.yaml", "[", "templates/a", ""), "values.yaml", api.ErrForm},
		{files("values.yaml", "[]"), "values.yaml", api.ErrKind},
		{files("templates/a", "{{"), "templates/a", api.ErrClose},
	} {
		refused(t, c.l, c.name, c.wrong)
	}
}
