package render_test

import (
	"math/rand/v2"
	"slices"
	"strconv"
	"strings"
	"testing"

	"mizzen/api"
	"mizzen/chart"
	"mizzen/object"
	"mizzen/render"
	"mizzen/sample"
	"mizzen/tree"
	"mizzen/values"
	"mizzen/yaml"
)

// one is a choice of the list.
func one[T any](r *rand.Rand, l []T) T { return l[r.IntN(len(l))] }

// bodies are objects that may be, which have each of the sample's values in them.
func bodies(t *testing.T) []api.Object {
	t.Helper()
	var l []api.Object
	for i, v := range sample.Values() {
		name := "n" + strconv.Itoa(i)
		o, e := object.Of(of("kind", str("Job"), "metadata", of("name", str(name), "hook", v), "spec", v, "---", v))
		if e != api.OK {
			t.Fatalf("Of with %s: %d", told(v), e)
		}
		l = append(l, o)
	}
	return l
}

func TestATextOfObjectsIsReadAsTheyAre(t *testing.T) {
	l := bodies(t)
	read(t, render.Text(l), l...)
	read(t, render.Text(nil))
	r := rand.New(rand.NewPCG(13, 1))
	for range 1000 {
		var some []api.Object
		for range r.IntN(5) {
			some = append(some, one(r, l))
		}
		s := render.Text(some)
		read(t, s, some...)
		read(t, "---\n# why\n---   \n"+s+"---\n~", some...)
	}
}

func TestATextOfTheLongestAndDeepestIsRead(t *testing.T) {
	name := strings.Repeat("n", 64)
	long := obj(t, "Job", name, doc("Job", name))
	long.Body = tree.Put(long.Body, "spec", str(xs(api.MaxText-len(yaml.Emit(long.Body))-len("spec: \n"))))
	if n := len(yaml.Emit(long.Body)); n != api.MaxText {
		t.Fatalf("%d bytes", n)
	}
	deep := obj(t, "Job", "deep", "{kind: Job, metadata: {name: deep}, spec: "+strings.Repeat("[", 14)+"1"+strings.Repeat("]", 14)+"}")
	wide := obj(t, "Job", "wide", "{kind: Job, metadata: {name: wide}, spec: ["+strings.TrimSuffix(strings.Repeat("1,", api.MaxNodes-5), ",")+"]}")
	for _, o := range []api.Object{long, deep, wide} {
		if e := tree.Check(o.Body); e != api.OK {
			t.Fatal(e)
		}
	}
	read(t, render.Text([]api.Object{long, deep, long, wide}), long, deep, long, wide)
}

// What a chart comes to, written, is read as it is, and split by its hooks as before.
func TestWhatAChartComesToIsReadAsItIs(t *testing.T) {
	c := web(t, "l: [c, a, b]", "a", `{{ $hook := .Values.hook }}{{ range .Values.l }}---
kind: Job
metadata: {name: {{ . }}, hook: {{ $hook }}}
{{ end }}`, "b", "kind: Service\nmetadata: {name: {{ .Release.Name }}}")
	for hook, hooks := range map[string]int{"pre": 3, "post": 0, `""`: 0, "~": 0, "7": 0} {
		l, name, e := render.Of(c, tree.Put(c.Values, "hook", str(hook)), "r")
		if len(l) != 4 || name != "" || e != api.OK {
			t.Fatalf("%s, %q, %d", told(l), name, e)
		}
		read(t, render.Text(l), l...)
		asked, _ := render.Split(l, "pre")
		same(t, "hooks of "+hook, asked, l[1:1+hooks])
	}
}

// modelObjects are the objects of a text's documents: split by hand, and read one by one.
func modelObjects(s string) ([]api.Object, api.Errno) {
	var l []api.Object
	part := ""
	for _, line := range append(strings.Split(s, "\n"), "---") {
		if strings.TrimRight(line, " ") != "---" {
			part += line + "\n"
			continue
		}
		v, e := yaml.Parse(strings.TrimSuffix(part, "\n"))
		part = ""
		if e != api.OK {
			return nil, e
		}
		if v.Kind == api.Null {
			continue
		}
		o, e := object.Of(v)
		if e != api.OK {
			return nil, e
		}
		l = append(l, o)
	}
	return l, api.OK
}

// pieces are lines of which texts are made: most are good ones.
func pieces() []string {
	l := []string{"---\n", "---\n", "---  \n", "\n", "# why\n", "~\n", "{}\n", "[\n", "a\n", "----\n", " ---\n", "a: 1\n"}
	for _, kind := range []string{"Service", "Job", "x", "Release"} {
		for _, name := range []string{"a", "b", "c-1"} {
			l = append(l, doc(kind, name)+"---\n", "---\n"+doc(kind, name)+"---\n", "{kind: "+kind+", metadata: {name: "+name+", hook: pre}}\n---\n")
		}
	}
	return l
}

func TestObjectsBesideAModel(t *testing.T) {
	r := rand.New(rand.NewPCG(13, 2))
	l := pieces()
	good := 0
	for range 20000 {
		var s strings.Builder
		for range r.IntN(6) {
			s.WriteString(one(r, l))
		}
		want, no := modelObjects(s.String())
		got, e := render.Objects(s.String())
		if told(got) != told(want) || e != no {
			t.Fatalf("Objects(%q) = %s, %d, want %s, %d", s.String(), told(got), e, told(want), no)
		}
		if len(got) > 1 {
			good++
		}
	}
	if good < 500 {
		t.Errorf("%d were good", good)
	}
}

// modelOf is what files come to, by layers 5, 10, 11 and 12: all of them as one text, as long as nothing is wrong.
func modelOf(c *chart.Chart, v api.Value, release string) ([]api.Object, string, api.Errno) {
	files, name, e := c.Run(values.Dot(c, v, release))
	if e != api.OK {
		return nil, name, e
	}
	whole := ""
	for _, f := range files {
		if _, e := modelObjects(f.Text); e != api.OK {
			return nil, f.Name, e
		}
		whole += f.Text + "\n---\n"
		if l, _ := modelObjects(whole); len(l) > 64 {
			return nil, f.Name, api.ErrSize
		}
	}
	l, _ := modelObjects(whole)
	slices.SortStableFunc(l, func(a, b api.Object) int { return object.Compare(a.ID, b.ID) })
	for i := 1; i < len(l); i++ {
		if l[i].ID == l[i-1].ID {
			return nil, "", api.ErrTwice
		}
	}
	return l, "", api.OK
}

// template is one, by chance.
func template(r *rand.Rand, file int) string {
	const each = "---\nkind: {{ $k }}\nmetadata: {name: f%-{{ $i }}, namespace: {{ $r }}}\nv: {{ . }}\n"
	var s strings.Builder
	for range r.IntN(4) {
		switch r.IntN(10) {
		case 0:
			s.WriteString(one(r, pieces()))
		case 1:
			s.WriteString("{{ .Values.x }}\n")
		case 2:
			s.WriteString("---\n" + doc("Job", "a") + "---\n")
		default:
			kind := one(r, []string{"Service", "Job", "x", "Ingress"})
			s.WriteString("---\n{{ $r := .Release.Name }}{{ range $i, $x := .Values.l }}" + strings.NewReplacer("{{ $k }}", kind, "%", strconv.Itoa(file)+strconv.Itoa(r.IntN(1000))).Replace(each) + "{{ end }}\n---\n")
		}
	}
	return s.String()
}

func TestOfBesideAModel(t *testing.T) {
	r := rand.New(rand.NewPCG(13, 3))
	good, found := 0, map[api.Errno]int{}
	for range 2000 {
		var l []string
		for i := range r.IntN(5) {
			l = append(l, one(r, []string{"", "", "b/", "_"})+string(rune('a'+r.IntN(20)))+strconv.Itoa(i), template(r, i))
		}
		c := web(t, "", l...)
		items := make([]api.Value, r.IntN(20))
		for i := range items {
			items[i] = num(int64(i))
		}
		v := of("l", tree.List(items...))
		want, wrong, no := modelOf(c, v, "r")
		got, name, e := render.Of(c, v, "r")
		if told(got) != told(want) || name != wrong || e != no {
			t.Fatalf("%s of %s: %s, %q, %d, want %s, %q, %d", told(l), told(v), told(got), name, e, told(want), wrong, no)
		}
		found[e]++
		if len(got) > 5 {
			good++
		}
	}
	if good < 500 || found[api.ErrSize] < 10 || found[api.ErrTwice] < 10 || found[api.ErrIdent] < 10 || found[api.ErrForm] < 10 {
		t.Errorf("%d were good, others %v", good, found)
	}
}

// strange are objects whose IDs and bodies may be, or may not.
func strange() []api.Object {
	ids := []api.ID{{}, {Kind: "Service", Space: "default", Name: "a"}, {Kind: "Release", Space: "default", Name: "web.v1"}, {Kind: "\xff", Space: "\x00", Name: "/"}}
	all := slices.Concat(sample.Faulty(), sample.Plain(), []api.Value{{Kind: 6}})
	for _, v := range sample.Faulty() {
		all = append(all, of("metadata", v), of("metadata", of("hook", v)), api.Value{Kind: api.Map, Map: []api.Pair{{Key: "metadata", Value: v}, {Key: "metadata"}, {Key: "kind", Value: v}}})
	}
	var l []api.Object
	for i, v := range all {
		l = append(l, api.Object{ID: ids[i%len(ids)], Body: v})
	}
	return l
}

func TestAnyObjectsAreTakenAndLeftAsTheyAre(t *testing.T) {
	l := strange()
	for i := range l {
		for _, when := range []string{"", "pre", "x", "\xff"} {
			was := told(l[i])
			hooks, rest := render.Split(l[i:i+1], when)
			if len(hooks)+len(rest) > 1 || told(append(hooks, rest...)) != told([]api.Object{l[i]}) && len(hooks)+len(rest) == 1 {
				t.Fatalf("Split of %.200s: %.200s, %.200s", was, told(hooks), told(rest))
			}
			spoil(hooks)
			spoil(rest)
			if now := told(l[i]); now != was {
				t.Fatalf("was %.200s, is %.200s", was, now)
			}
		}
	}
	render.Split(l, "x")
	render.Objects(render.Text(l))
}

func TestDeepObjectsAreTaken(t *testing.T) {
	deep := api.Object{Body: of("metadata", sample.Nest(65000, num(1)), "spec", sample.Maps(65000, num(1)))}
	hooks, rest := render.Split([]api.Object{deep, deep}, "pre")
	if len(hooks) != 0 || len(rest) != 2 {
		t.Errorf("%d hooks, %d others", len(hooks), len(rest))
	}
	for _, body := range []api.Value{sample.Nest(2000, num(1)), sample.Maps(2000, num(1))} {
		if _, e := render.Objects(render.Text([]api.Object{{Body: body}})); e == api.OK {
			t.Error("it is read")
		}
	}
}

func TestAnyTextsAreTaken(t *testing.T) {
	for _, s := range slices.Concat(sample.Texts(6, "-\n ~a:"), sample.Texts(3, "\xff\x00\t[{\"'#\n")) {
		l, e := render.Objects(s)
		want, no := modelObjects(s)
		if len(l) > 0 || len(want) > 0 || e != no {
			t.Fatalf("Objects(%q) = %s, %d, want %d", s, told(l), e, no)
		}
	}
	for _, s := range []string{strings.Repeat("---\n", 1<<18), strings.Repeat("--- \n~\n", 1<<17)} {
		read(t, s)
	}
	for _, s := range []string{strings.Repeat("\n", 1<<20), strings.Repeat("-", 1<<20), xs(1 << 20)} {
		unread(t, s, api.ErrSize)
	}
}

func TestAnyChartsAreTaken(t *testing.T) {
	all := slices.Concat(sample.Faulty(), sample.Plain(), []api.Value{sample.Nest(65000, num(1)), sample.Maps(65000, num(1))})
	c := web(t, "", "a", doc("Job", "a"), "b", "{{ with .Values }}kind: {{ . }}\nmetadata: {{ .a }}{{ end }}")
	for i, v := range all {
		strange := &chart.Chart{Name: "\xff", Version: "\x00", Values: v, Templates: []api.File{{Name: "a", Text: "{{"}}}
		for _, release := range []string{"r", "", "\xff"} {
			for _, c := range []*chart.Chart{c, strange, {}, nil} {
				was := ""
				if i < len(all)-2 {
					was = told(v)
				}
				l, name, e := render.Of(c, v, release)
				if e != api.OK && len(l) > 0 || e == api.OK && name != "" {
					t.Fatalf("%.200s, %q, %d", told(l), name, e)
				}
				spoil(l)
				if was != "" && told(v) != was {
					t.Fatalf("was %s, is %s", was, told(v))
				}
			}
		}
	}
}

// spoil overwrites objects, with the room behind their end.
func spoil(l []api.Object) {
	for _, o := range l {
		sample.Spoil(o.Body)
	}
	l = l[:cap(l)]
	for i := range l {
		l[i] = api.Object{ID: api.ID{Kind: "spoilt"}, Body: num(99)}
	}
}

// listed are objects, hooks and others, with room behind their end.
func listed(t *testing.T) []api.Object {
	t.Helper()
	l := []api.Object{hooked(t, "a", "pre"), obj(t, "Job", "b", doc("Job", "b")+"spec: [1, [2], {a: [3]}]"), hooked(t, "c", "pre"), obj(t, "Job", "d", doc("Job", "d")+"spec: {a: [1]}")}
	return l[:3]
}

func TestListsAreNotChangedAndNotKept(t *testing.T) {
	l := listed(t)
	was := told(l[:4])
	for _, when := range []string{"pre", "post", ""} {
		hooks, rest := render.Split(l, when)
		there := told(rest)
		spoil(hooks)
		if told(rest) != there {
			t.Errorf("was %s, is %s", there, told(rest))
		}
		spoil(rest)
		render.Text(l)
	}
	if now := told(l[:4]); now != was {
		t.Errorf("was %s, is %s", was, now)
	}
	hooks, rest := render.Split(l, "pre")
	want := told(hooks) + told(rest)
	spoil(l)
	if now := told(hooks) + told(rest); now != want {
		t.Errorf("was %s, is %s", want, now)
	}
}

func TestOneObjectTwiceIsHandedOutApart(t *testing.T) {
	o := listed(t)[1]
	_, rest := render.Split([]api.Object{o, o}, "pre")
	if len(rest) != 2 || !sample.Apart(tree.List(rest[0].Body, rest[1].Body)) {
		t.Errorf("two bodies share a list: %s", told(rest))
	}
}

func TestWhatIsAnsweredIsNewMemory(t *testing.T) {
	const spec = "spec: [1, [2], {a: [3]}]\n"
	s := doc("Job", "a") + spec + "---\n" + doc("Job", "b") + spec
	c := web(t, "a: [1, {b: [2]}]", "a", s, "b", doc("Role", "c"))
	was := told(c.Values) + told(c.Templates)
	for range 3 {
		l, e := render.Objects(s)
		if e != api.OK || len(l) != 2 || !apart(l) {
			t.Errorf("Objects: %s, %d", told(l), e)
		}
		spoil(l)
		l, _, e = render.Of(c, c.Values, "r")
		if e != api.OK || len(l) != 3 || !apart(l) {
			t.Errorf("Of: %s, %d", told(l), e)
		}
		spoil(l)
		if now := told(c.Values) + told(c.Templates); now != was {
			t.Errorf("was %s, is %s", was, now)
		}
	}
}

// apart says whether no two lists in the bodies share memory; the numbers in them are written over.
func apart(l []api.Object) bool {
	all := api.Value{Kind: api.List}
	for _, o := range l {
		all.List = append(all.List, o.Body)
	}
	return sample.Apart(all)
}

func TestCallsDoNotHangOnEachOther(t *testing.T) {
	c := web(t, "k: Job", "a", "kind: {{ .Values.k }}\nmetadata: {name: a}")
	for range 3 {
		gives(t, c, plain(t, "Job", "a")...)
		if l, name, e := render.Of(c, of("k", num(1)), "first"); len(l) > 0 || name != "templates/a" || e != api.ErrIdent {
			t.Errorf("%s, %q, %d", told(l), name, e)
		}
		read(t, doc("Job", "a"), plain(t, "Job", "a")...)
		unread(t, doc("Job", "a")+"---\n[", api.ErrForm)
		lays(t, "kind: Job\nmetadata:\n  name: a\n", plain(t, "Job", "a")...)
		splits(t, plain(t, "Job", "a"), "pre", nil, plain(t, "Job", "a"))
	}
}
