package render_test

import (
	"strconv"
	"strings"
	"testing"

	"mizzen/api"
	"mizzen/chart"
	"mizzen/render"
	"mizzen/tree"
)

func TestOf(t *testing.T) {
	both := plain(t, "Service", "b", "Deployment", "a")
	gives(t, web(t, "", "a.yaml", doc("Deployment", "a")+"---\n"+doc("Service", "b")), both...)
	gives(t, web(t, "", "a.yaml", doc("Service", "b")+"---\n"+doc("Deployment", "a")), both...)
	gives(t, web(t, "", "a.yaml", doc("Deployment", "a"), "b.yaml", doc("Service", "b")), both...)
	gives(t, web(t, "", "a", doc("Service", "b"), "b", "", "c", "# no\n---\n", "d", "\n", "e", doc("Deployment", "a")+"---"), both...)
	gives(t, web(t, "", "a", doc("Deployment", "a"), "_b", doc("Job", "x")), both[1])
	gives(t, web(t, ""))
	gives(t, web(t, "", "a", "", "b", "# no", "c", "---\n---\n", "_d", "x"))
}

func TestObjectsOfAllFilesAreInOrder(t *testing.T) {
	want := plain(t, "Namespace", "z", "Secret", "y", "ConfigMap", "c", "ConfigMap", "d", "Service", "a", "Job", "b", "Ingress", "x", "Apple", "n", "Zebra", "m")
	gives(t, web(t, "",
		"a", doc("Zebra", "m")+"---\n"+doc("ConfigMap", "d")+"---\n"+doc("Job", "b"),
		"b/c", doc("Service", "a")+"---\n"+doc("Namespace", "z")+"---\n"+doc("Apple", "n"),
		"d", doc("ConfigMap", "c")+"---\n"+doc("Ingress", "x")+"---\n"+doc("Secret", "y"),
	), want...)
	of := func(space, name string) string {
		return "{kind: Job, metadata: {name: " + name + ", namespace: " + space + "}}\n"
	}
	l, _, e := render.Of(web(t, "", "a", of("b", "a")+"---\n"+of("a", "b")+"---\n"+doc("Job", "c")+"---\n"+of("a", "a")), tree.Null(), "r")
	var ids []string
	for _, o := range l {
		ids = append(ids, o.ID.Space+o.ID.Name)
	}
	if got := strings.Join(ids, " "); got != "aa ab ba defaultc" || e != api.OK {
		t.Errorf("%s, %d", got, e)
	}
}

func TestDocumentsEndWithTheirFile(t *testing.T) {
	fails(t, web(t, "", "a", "kind: Job", "b", "metadata: {name: a}"), "templates/a", api.ErrIdent)
	gives(t, web(t, "", "a", strings.TrimSuffix(doc("Job", "a"), "\n"), "b", strings.TrimSuffix(doc("Role", "b"), "\n")), plain(t, "Role", "b", "Job", "a")...)
}

func TestTemplatesSeeTheValuesTheChartAndTheRelease(t *testing.T) {
	const all = "kind: {{ .Values.kind }}\nmetadata: {name: {{ .Release.Name }}}\nof: {{ .Chart.Name }} {{ .Chart.Version }}\nown: {{ .kind }}x"
	c := web(t, "kind: Role", "a", all)
	for _, kind := range []string{"Role", "Job", "x"} {
		for _, release := range []string{"first", "b", "a.b"} {
			want := obj(t, kind, release, doc(kind, release)+"of: web v1\nown: x")
			l, name, e := render.Of(c, of("kind", str(kind)), release)
			if told(l) != told([]api.Object{want}) || name != "" || e != api.OK {
				t.Errorf("Of %s, %s: %s, %q, %d", kind, release, told(l), name, e)
			}
		}
	}
	gives(t, c, obj(t, "Role", "first", doc("Role", "first")+"of: web v1\nown: x"))
	for _, release := range []string{"", "a/b", "null", "a: b"} {
		if l, name, e := render.Of(c, of("kind", str("Job")), release); len(l) > 0 || name != "templates/a" || e == api.OK {
			t.Errorf("Of %q: %s, %q, %d", release, told(l), name, e)
		}
	}
}

// The values are those that are handed in: the chart's own ones aren't laid below.
func TestTheValuesAreTakenAsTheyAre(t *testing.T) {
	c := web(t, "{kind: Role, name: own}", "a", "kind: {{ .Values.kind }}\nmetadata: {name: a{{ .Values.name }}}")
	l, _, e := render.Of(c, of("kind", str("Job")), "r")
	same(t, "without a name", l, plain(t, "Job", "a"))
	if e != api.OK {
		t.Error(e)
	}
	l, name, e := render.Of(c, tree.Null(), "r")
	if len(l) > 0 || name != "templates/a" || e != api.ErrIdent {
		t.Errorf("of nothing: %s, %q, %d", told(l), name, e)
	}
}

func TestPartialTemplates(t *testing.T) {
	c := web(t, "n: b",
		"_p", `{{ define "meta" }}metadata: {name: {{ .Values.n }}}{{ end }}not read: [`,
		"a", "kind: Job\n{{ include \"meta\" . }}",
		"b", "{{ range list \"Role\" \"Service\" }}---\nkind: {{ . }}\nmetadata: {name: {{ . | lower }}}\n{{ end }}",
	)
	gives(t, c, plain(t, "Role", "role", "Service", "service", "Job", "b")...)
}

func TestWrongCharts(t *testing.T) {
	for s, want := range map[string]api.Errno{
		"{{ $x }}": api.ErrName, "{{ add 1 }}": api.ErrCall, "{{ add true 1 }}": api.ErrKind, `{{ required "why" nil }}`: api.ErrArg,
		"\ta": api.ErrIndent, "a:\n  b: 1\n   c: 2": api.ErrIndent, "{a: 1, a: 2}": api.ErrTwice, "'": api.ErrQuote, "a: -9223372036854775809": api.ErrOver, "a: ]": api.ErrForm, "x": api.ErrIdent, "kind: Job": api.ErrIdent,
		strings.Repeat("[", 17) + strings.Repeat("]", 17):                       api.ErrDeep,
		"[" + strings.TrimSuffix(strings.Repeat("1,", api.MaxNodes), ",") + "]": api.ErrSize,
		"{{ .Values.x }}": api.ErrIdent, "{{ .Release.Name }}": api.ErrIdent,
	} {
		fails(t, web(t, "x: 1", "b", s), "templates/b", want)
		fails(t, web(t, "x: 1", "a", doc("Job", "a"), "b", s, "c", doc("Job", "c")), "templates/b", want)
		fails(t, web(t, "x: 1", "a", doc("Job", "a"), "b", doc("Job", "b")+"---\n"+s, "c", doc("Job", "a")), "templates/b", want)
	}
}

func TestTheFirstFileThatIsWrongIsTold(t *testing.T) {
	fails(t, web(t, "", "b", "[", "a", "x", "c", "'"), "templates/a", api.ErrIdent)
	fails(t, web(t, "", "b", "[", "a", "", "c", "'"), "templates/b", api.ErrForm)
	fails(t, web(t, "", "b/a", "[", "b.c", "'"), "templates/b.c", api.ErrQuote)
}

// All templates are run ahead of the reading of the first.
func TestWhatRunsWrongIsToldAheadOfWhatIsReadWrong(t *testing.T) {
	fails(t, web(t, "", "a", "[", "b", "{{ $x }}"), "templates/b", api.ErrName)
	fails(t, web(t, "", "a", docs(0, 65), "b", "{{ add 1 }}", "c", "{{ $x }}"), "templates/b", api.ErrCall)
}

func TestTwoOfOneIDAreOfNoFile(t *testing.T) {
	a := doc("Job", "a")
	fails(t, web(t, "", "a", a+"---\n"+a), "", api.ErrTwice)
	fails(t, web(t, "", "a", a, "b", doc("Role", "a"), "c", a), "", api.ErrTwice)
	fails(t, web(t, "", "a", a, "b", "{kind: Job, more: 1, metadata: {namespace: default, name: a}}"), "", api.ErrTwice)
	fails(t, web(t, "", "a", a, "b", a, "c", "["), "templates/c", api.ErrForm)
	gives(t, web(t, "", "a", a, "b", doc("Role", "a"), "c", doc("Job", "b"), "_d", a), plain(t, "Role", "a", "Job", "a", "Job", "b")...)
}

// docs are so many documents that are objects, numbered, with some from there on.
func docs(from, n int) string {
	var l []string
	for i := range n {
		l = append(l, doc("Job", "j"+strconv.Itoa(100+from+i)))
	}
	return strings.Join(l, "---\n")
}

// numbered are the objects that docs writes.
func numbered(t *testing.T, n int) []api.Object {
	t.Helper()
	l, e := render.Objects(docs(0, n))
	if e != api.OK || len(l) != n {
		t.Fatalf("%d of %d, %d", len(l), n, e)
	}
	return l
}

func TestOf64Objects(t *testing.T) {
	most := numbered(t, api.MaxObjects)
	gives(t, web(t, "", "a", docs(0, 64)), most...)
	gives(t, web(t, "", "a", docs(32, 32), "b", "", "c", docs(0, 32)), most...)
	gives(t, web(t, "", "a", docs(1, 63), "b", docs(0, 1), "c", "# no\n---\n---"), most...)
	fails(t, web(t, "", "a", docs(0, 65)), "templates/a", api.ErrSize)
	fails(t, web(t, "", "a", docs(0, 32), "b", docs(32, 33)), "templates/b", api.ErrSize)
	fails(t, web(t, "", "a", docs(0, 64), "b", "", "c", docs(64, 1), "d", docs(65, 1)), "templates/c", api.ErrSize)
	fails(t, web(t, "", "a", docs(0, 1), "b", docs(1, 64), "c", docs(65, 64)), "templates/b", api.ErrSize)
}

func TestMoreThan64ObjectsAreToldWithTheirFile(t *testing.T) {
	fails(t, web(t, "", "a", docs(0, 64), "b", docs(0, 1)), "templates/b", api.ErrSize)
	fails(t, web(t, "", "a", docs(0, 64), "b", docs(64, 1)+"---\n["), "templates/b", api.ErrForm)
	fails(t, web(t, "", "a", docs(0, 65), "b", "["), "templates/a", api.ErrSize)
	fails(t, web(t, "", "a", docs(0, 63)+"---\n"+docs(0, 1)), "", api.ErrTwice)
}

// What the chart's templates come to is bounded file by file.
func TestFilesOf65536Bytes(t *testing.T) {
	file := func(name string, n int) string {
		s := doc("Job", name) + "#"
		return s + xs(n-len(s))
	}
	gives(t, web(t, "", "a", file("a", 65536), "b", file("b", 65536)), plain(t, "Job", "a", "Job", "b")...)
	s := doc("Job", "a") + "#"
	c := web(t, "", "a", s+"{{ .Values }}")
	l, _, e := render.Of(c, str(xs(65536-len(s))), "r")
	same(t, "the most", l, plain(t, "Job", "a"))
	l, name, no := render.Of(c, str(xs(65537-len(s))), "r")
	if e != api.OK || len(l) > 0 || name != "templates/a" || no != api.ErrSize {
		t.Errorf("%d; %.200s, %q, %d", e, told(l), name, no)
	}
}

func TestOfNoChart(t *testing.T) {
	for _, v := range []api.Value{tree.Null(), of("a", num(1)), {Kind: 99}} {
		if l, name, e := render.Of(nil, v, "r"); len(l) > 0 || name != "" || e != api.ErrNil {
			t.Errorf("%s, %q, %d", told(l), name, e)
		}
	}
	gives(t, &chart.Chart{})
}
