package chart_test

import (
	"math/rand/v2"
	"slices"
	"strconv"
	"strings"
	"testing"

	"mizzen/api"
	"mizzen/chart"
	"mizzen/eval"
	"mizzen/parse"
	"mizzen/sample"
	"mizzen/tree"
)

// orders shows each order of files.
func orders(l []api.File, see func([]api.File)) {
	var from func(i int)
	from = func(i int) {
		if i == len(l) {
			see(l)
			return
		}
		for j := i; j < len(l); j++ {
			l[i], l[j] = l[j], l[i]
			from(i + 1)
			l[i], l[j] = l[j], l[i]
		}
	}
	from(0)
}

func TestInWhateverOrder(t *testing.T) {
	l := with("values.yaml", "a: 1", "templates/_p", `{{ define "p" }}{{ .x }}{{ end }}`, "templates/a", `{{ include "p" . }}`, "templates/b", `{{ define "q" }}{{ end }}{{ include "p" . }}!`, "README", "x")
	dot := of("x", num(7))
	want := seen(made(t, slices.Clone(l)...))
	orders(l, func(l []api.File) {
		c := made(t, l...)
		if seen(c) != want {
			t.Errorf("%s: %s, want %s", told(l), seen(c), want)
		}
		gives(t, c, dot, "templates/a", "7", "templates/b", "7!")
	})
	for _, wrong := range []struct {
		file api.File
		e    api.Errno
	}{{api.File{Name: "templates/c", Text: `{{ define "q" }}{{ end }}`}, api.ErrTwice}, {api.File{Name: "templates/B", Text: "{{"}, api.ErrClose}} {
		orders(append(with("values.yaml", "[", "templates/b", `{{ define "q" }}{{ end }}`), wrong.file), func(l []api.File) { refused(t, l, wrong.file.Name, wrong.e) })
	}
}

// parts are pieces of templates: all but the last few are good ones.
func parts() []string {
	return []string{"x ", "{{ .a }}", "{{ . }}", "{{ if .a }}y{{ end }}", `{{ range $i, $x := .l }}{{ $i }}{{ $x }}{{ end }}`, `{{ include "d0" . }}`, `{{ include "d1" .a }}`, `{{ include "d2" . | upper }}`, `{{ include "d3" nil }}`, "{{ add .a 1 }}", "{{ $x }}", "{{ nope }}"}
}

// random are files of a chart that New takes, in some order.
func random(r *rand.Rand) []api.File {
	l := with()
	defined := 0
	for i := range r.IntN(6) {
		name := "templates/" + []string{"", "_", "b/", "b/_", "_c/"}[r.IntN(5)] + string(rune('a'+r.IntN(20))) + strconv.Itoa(i)
		var s strings.Builder
		for range r.IntN(4) {
			if r.IntN(3) == 0 {
				s.WriteString(`{{ define "d` + strconv.Itoa(defined) + `" }}` + parts()[r.IntN(9)] + "{{ end }}")
				defined++
			}
			s.WriteString(parts()[r.IntN(len(parts()))])
		}
		l = append(l, api.File{Name: name, Text: s.String()})
	}
	r.Shuffle(len(l), func(i, j int) { l[i], l[j] = l[j], l[i] })
	return l
}

// expected is what a chart of files comes to, by layer 9 alone, template by template.
func expected(t *testing.T, l []api.File, dot api.Value) ([]api.File, string, api.Errno) {
	t.Helper()
	nodes := map[string][]parse.Node{}
	var all []parse.Node
	var names []string
	for _, f := range l {
		if !strings.HasPrefix(f.Name, "templates/") {
			continue
		}
		read, e := parse.Parse(f.Text)
		if e != api.OK {
			t.Fatalf("Parse(%q): %d", f.Text, e)
		}
		all = append(all, read...)
		nodes[f.Name] = read
		if !strings.Contains(f.Name, "/_") || strings.HasPrefix(f.Name, "templates/_c/") {
			names = append(names, f.Name)
		}
	}
	d, e := eval.Collect(nil, all)
	if e != api.OK {
		t.Fatalf("Collect of %s: %d", told(l), e)
	}
	slices.Sort(names)
	var out []api.File
	for _, name := range names {
		s, _, e := eval.Run(d, nodes[name], dot, api.MaxFuel)
		if e != api.OK {
			return nil, name, e
		}
		out = append(out, api.File{Name: name, Text: s})
	}
	return out, "", api.OK
}

func TestManyCharts(t *testing.T) {
	r := rand.New(rand.NewPCG(10, 1))
	dots := []api.Value{tree.Null(), num(1), of("a", num(1), "l", tree.List(str("b"), num(2))), of("a", of("a", num(3)), "l", of("k", str("v"))), of("l", str("x"))}
	good := 0
	for range 4000 {
		l := random(r)
		dot := dots[r.IntN(len(dots))]
		c := made(t, l...)
		want, wrong, no := expected(t, l, dot)
		got, name, e := c.Run(dot)
		if told(got) != told(want) || name != wrong || e != no {
			t.Fatalf("%s of %s: %s, %q, %d, want %s, %q, %d", told(l), told(dot), told(got), name, e, told(want), wrong, no)
		}
		if e == api.OK && len(got) > 0 {
			good++
		}
		r.Shuffle(len(l), func(i, j int) { l[i], l[j] = l[j], l[i] })
		if again := made(t, l...); seen(again) != seen(c) {
			t.Fatalf("%s: was %s, is %s", told(l), seen(c), seen(again))
		}
	}
	if good < 500 {
		t.Errorf("%d were good", good)
	}
}

func TestAnyFilesAreTaken(t *testing.T) {
	r := rand.New(rand.NewPCG(10, 2))
	names := []string{"Chart.yaml", "Chart.yaml", "values.yaml", "templates/a", "templates/b", "templates/_c", "README", "", "1", "templates/", "\xff", xs(257)}
	texts := []string{about, about, "", "a: 1", "x", "{{ . }}", "{{", `{{ define "d" }}{{ end }}`, "\x00\xff", "\t", "[", xs(65537)}
	values := slices.Concat(sample.Plain(), sample.Faulty(), []api.Value{sample.Nest(65000, num(1))})
	good := 0
	for range 20000 {
		l := with()[:r.IntN(2)]
		for range r.IntN(5) {
			l = append(l, api.File{Name: names[r.IntN(len(names))], Text: texts[r.IntN(len(texts))]})
		}
		was := slices.Clone(l)
		c, name, e := chart.New(l...)
		if (c == nil) != (e != api.OK) || e == api.OK && name != "" {
			t.Fatalf("New(%s) = %v, %q, %d", told(l), c, name, e)
		}
		if e != api.OK {
			continue
		}
		good++
		dot := values[r.IntN(len(values))]
		if out, name, e := c.Run(dot); e != api.OK && (name == "" || len(out) > 0) || e == api.OK && name != "" {
			t.Fatalf("Run of %s: %s, %q, %d", told(l), told(out), name, e)
		}
		if !slices.Equal(l, was) {
			t.Fatalf("was %s, is %s", told(was), told(l))
		}
	}
	if good < 500 {
		t.Errorf("%d were good", good)
	}
}

func TestFilesAreNotChangedAndNotKept(t *testing.T) {
	room := with("values.yaml", "a: {b: [1]}", "templates/b", "{{ .x }}", "templates/a", `{{ define "d" }}{{ . }}{{ end }}{{ include "d" .x }}`, "templates/_c", "", "1", "")
	was := slices.Clone(room)
	c := made(t, room[:5]...)
	if !slices.Equal(room, was) {
		t.Errorf("was %s, is %s", told(was), told(room))
	}
	before := seen(c)
	for i := range room {
		room[i] = api.File{Name: "spoilt", Text: "{{"}
	}
	dot := of("x", str("y"))
	if seen(c) != before {
		t.Errorf("was %s, is %s", before, seen(c))
	}
	gives(t, c, dot, "templates/a", "y", "templates/b", "y")
}

func TestTheValueIsNotChanged(t *testing.T) {
	c := made(t, with("templates/a", `{{ range $k, $v := . }}{{ $k }}{{ list $v . }}{{ end }}{{ with .l }}{{ list . }}{{ end }}`)...)
	dot := of("l", tree.List(num(1), of("a", num(2))), "m", of("a", tree.List()))
	was := told(dot)
	gives(t, c, dot, "templates/a", "l[]m[][]")
	if told(dot) != was {
		t.Errorf("was %s, is %s", was, told(dot))
	}
}

func TestWhatIsAnsweredIsNewMemory(t *testing.T) {
	l := with("values.yaml", "a: {b: [1, [2]], c: {d: 1}}", "templates/a", "{{ .x }}", "templates/b", "{{ .x }}!", "templates/_c", "")
	c, other := made(t, l...), made(t, l...)
	if !sample.Apart(tree.Clone(c.Values)) || !sample.Apart(other.Values) {
		t.Error("one list twice")
	}
	was := seen(c)
	other = made(t, l...)
	sample.Spoil(other.Values)
	for i := range other.Templates[:cap(other.Templates)] {
		other.Templates[:cap(other.Templates)][i] = api.File{Name: "spoilt"}
	}
	if seen(c) != was {
		t.Errorf("was %s, is %s", was, seen(c))
	}
	dot := of("x", num(1))
	out, _, _ := c.Run(dot)
	for i := range out[:cap(out)] {
		out[:cap(out)][i] = api.File{Name: "spoilt", Text: "spoilt"}
	}
	for _, c := range []*chart.Chart{c, other} {
		gives(t, c, dot, "templates/a", "1", "templates/b", "1!")
	}
	if seen(c) != was {
		t.Errorf("behind a run: was %s, is %s", was, seen(c))
	}
}

// What a chart comes to hangs on its files and the value alone, however often it is run, and of whatever in between.
func TestRunsDoNotHangOnEachOther(t *testing.T) {
	c := made(t, with("templates/a", "{{ $x := . }}{{ range $x }}{{ . }}{{ end }}", "templates/b", "{{ if . }}{{ add 1 (len .) }}{{ end }}")...)
	for range 3 {
		gives(t, c, tree.List(num(1), num(2)), "templates/a", "12", "templates/b", "3")
		fails(t, c, num(1), "templates/a", api.ErrKind)
		gives(t, c, tree.Null(), "templates/a", "", "templates/b", "")
		gives(t, c, of("k", num(5)), "templates/a", "5", "templates/b", "2")
	}
}
