package values_test

import (
	"strconv"
	"strings"
	"testing"

	"mizzen/api"
	"mizzen/chart"
	"mizzen/tree"
	"mizzen/values"
)

func TestOf(t *testing.T) {
	layers(t, "{a: 1, b: {c: 2}}", nil, nil, "{a: 1, b: {c: 2}}")
	layers(t, "{a: 1, b: {c: 2}}", []string{}, []string{}, "{a: 1, b: {c: 2}}")
	layers(t, "", nil, nil, "{}")
	layers(t, "", []string{"a: 1"}, nil, "a: 1")
	layers(t, "", nil, []string{"a=1"}, "a: 1")
	layers(t, "{a: 1, b: {c: 2}}", []string{"b: {d: 3}"}, nil, "{a: 1, b: {c: 2, d: 3}}")
	layers(t, "{a: 1, b: {c: 2}}", []string{"{a: ~, b: {d: 3}}"}, nil, "b: {c: 2, d: 3}")
	layers(t, "{a: 1, b: 1, c: 1, d: 1}", []string{"{b: 2, c: 2, d: 2}", "{c: 3, d: 3}"}, []string{"d=4"}, "{a: 1, b: 2, c: 3, d: 4}")
	layers(t, "a: {x: 1}", []string{"a: {y: 2}", "a: {z: 3}"}, []string{"a.x=4", "a.w=5"}, "a: {w: 5, x: 4, y: 2, z: 3}")
	layers(t, "l: [1, 2]", []string{"l: [3]"}, nil, "l: [3]")
	layers(t, "a: {b: 1}", []string{"a: 1", "a: {c: 2}"}, nil, "a: {c: 2}")
	layers(t, "", []string{"# first\na: 1 # one\n", "a:\n  - 2\n"}, []string{`b="x"`}, "{a: [2], b: x}")
}

func TestWhatIsLaidLastStands(t *testing.T) {
	layers(t, "a: 1", []string{"a: 2", "a: 3"}, []string{"a=4", "a=5"}, "a: 5")
	layers(t, "a: 1", []string{"a: 2", "a: 3"}, nil, "a: 3")
	layers(t, "a: 1", []string{"a: 3", "a: 2"}, nil, "a: 2")
	layers(t, "a: 1", nil, []string{"a=5", "a=4"}, "a: 4")
	layers(t, "", nil, []string{"a.b=1", "a=2"}, "a: 2")
	layers(t, "", nil, []string{"a=2", "a.b=1"}, "a: {b: 1}")
	layers(t, "", nil, []string{"a=1", "a=", "a.b=2", "a.b="}, "a: {}")
	layers(t, "", []string{"a: 1", "a:", "b: 1"}, []string{"b=", "b=2"}, "b: 2")
}

func TestOwnValuesAreStripped(t *testing.T) {
	layers(t, "{a: ~, b: {c: ~, d: 1}, e: [~, {f: ~}]}", nil, nil, "{b: {d: 1}, e: [~, {f: ~}]}")
	layers(t, "{a: ~}", nil, nil, "{}")
	layers(t, "{a: ~}", []string{""}, []string{"b="}, "{}")
	layers(t, "", []string{"{a: ~, b: {c: ~}, e: [{f: ~}]}"}, nil, "{b: {}, e: [{f: ~}]}")
}

func TestTextsOfNothingArePassedOver(t *testing.T) {
	for _, s := range []string{"", "\n", "  \n", "# a: 1", "~", "null", "~ # a"} {
		layers(t, "a: 1", []string{s}, nil, "a: 1")
		layers(t, "a: 1", []string{s, "b: 2", s}, []string{"c=3"}, "{a: 1, b: 2, c: 3}")
		layers(t, "", []string{s}, nil, "{}")
	}
	layers(t, "a: 1", []string{"{}"}, nil, "a: 1")
}

func TestWrongTexts(t *testing.T) {
	for s, want := range map[string]api.Errno{
		"a: 1\n\tb: 2": api.ErrIndent, "a: 1\n  b: 2": api.ErrIndent, "a: 1\na: 2": api.ErrTwice, `a: "b`: api.ErrQuote, "a: 9223372036854775808": api.ErrOver, "{a": api.ErrForm, "a: 1\nb": api.ErrForm, "a: \xff": api.ErrForm,
		"1": api.ErrKind, "0": api.ErrKind, "x": api.ErrKind, "true": api.ErrKind, "false": api.ErrKind, `""`: api.ErrKind, `"null"`: api.ErrKind, "[]": api.ErrKind, "[a]": api.ErrKind, "- a: 1": api.ErrKind, "a=1": api.ErrKind,
		strings.Repeat("{a: ", 16) + "1" + strings.Repeat("}", 16): api.ErrDeep, "[" + strings.Repeat("1,", 4095) + "1]": api.ErrSize, "#" + xs(api.MaxText): api.ErrSize,
	} {
		fails(t, "a: 1", []string{s}, nil, want)
		fails(t, "a: 1", []string{"a: 1", "", s, "b: 2"}, []string{"c=3"}, want)
	}
}

func TestWrongSetsOfMany(t *testing.T) {
	for s, want := range map[string]api.Errno{
		"": api.ErrForm, "a": api.ErrForm, "a: 1": api.ErrForm, "a b=1": api.ErrForm, `a="`: api.ErrQuote, `a="" `: api.ErrForm, "a=9223372036854775808": api.ErrOver, "a=\xff": api.ErrForm, strings.Repeat("a.", 15) + "a=1": api.ErrDeep,
	} {
		fails(t, "a: 1", nil, []string{s}, want)
		fails(t, "a: 1", []string{"b: 2"}, []string{"c=3", s, "d=4"}, want)
	}
}

func TestTheFirstThatIsWrongIsTold(t *testing.T) {
	fails(t, "", []string{"1", "{"}, []string{`a="`}, api.ErrKind)
	fails(t, "", []string{"{", "1"}, []string{`a="`}, api.ErrForm)
	fails(t, "", []string{"a: 1", "a: '"}, []string{"a=9223372036854775808"}, api.ErrQuote)
	fails(t, "", nil, []string{"a=9223372036854775808", "a='"}, api.ErrOver)
	fails(t, "", nil, []string{"a='", "a=9223372036854775808"}, api.ErrQuote)
	fails(t, "", []string{"[\xff]"}, nil, api.ErrForm)
}

func TestTextsOf65536Bytes(t *testing.T) {
	s := "a: 1 #"
	layers(t, "", []string{s + xs(api.MaxText-len(s))}, nil, "a: 1")
	fails(t, "", []string{s + xs(api.MaxText-len(s)+1)}, nil, api.ErrSize)
}

func TestTextsOfDepth16(t *testing.T) {
	most := strings.Repeat("{a: ", api.MaxDepth-1) + "1" + strings.Repeat("}", api.MaxDepth-1)
	layers(t, "", []string{most}, nil, most)
	layers(t, "a: 1", []string{most}, []string{strings.Repeat("a.", api.MaxDepth-2) + "a=1"}, most)
	fails(t, "", []string{"{a: " + most + "}"}, nil, api.ErrDeep)
}

// listed is a map with a list of nothings under a key, written: so many values in all.
func listed(key string, n int) string {
	return key + ": [" + strings.TrimSuffix(strings.Repeat("~,", n-2), ",") + "]"
}

// What comes of a text, of a set, must itself be no greater than a value may be, whatever comes behind.
func TestWhatComesOfEachHas4096Values(t *testing.T) {
	own := listed("a", 4000)
	layers(t, own, []string{listed("b", 97)}, nil, own+"\n"+listed("b", 97))
	fails(t, own, []string{listed("b", 98)}, nil, api.ErrSize)
	fails(t, own, []string{listed("b", 98)}, []string{"b="}, api.ErrSize)
	fails(t, own, []string{listed("b", 98), "b:"}, nil, api.ErrSize)
	fails(t, own, []string{listed("b", 98), "1"}, nil, api.ErrSize)
	fails(t, own, []string{listed("b", 98)}, []string{`a="`}, api.ErrSize)
	layers(t, own, []string{"a:", listed("b", 98)}, nil, listed("b", 98))
	fails(t, own, []string{listed("b", 97)}, []string{"c=1"}, api.ErrSize)
	fails(t, own, []string{listed("b", 97)}, []string{"c=1", "c="}, api.ErrSize)
	layers(t, own, []string{listed("b", 97)}, []string{"c=", "b=1", "c=1"}, own+"\nb: 1\nc: 1")
	layers(t, listed("a", 4096), nil, []string{"a=1"}, "a: 1")
	fails(t, listed("a", 4096), nil, []string{"b=1"}, api.ErrSize)
}

func TestOfManySets(t *testing.T) {
	var l []string
	for i := range 1000 {
		l = append(l, "k"+strconv.Itoa(i%300)+"="+strconv.Itoa(i))
	}
	v, e := values.Of(web(t, ""), nil, l)
	if last, _ := tree.Get(v, "k99"); e != api.OK || len(v.Map) != 300 || last.Int != 999 {
		t.Errorf("%d pairs, k99 is %s, %d", len(v.Map), told(last), e)
	}
}

func TestOfNoChart(t *testing.T) {
	for _, texts := range [][]string{nil, {"a: 1"}, {"["}} {
		for _, sets := range [][]string{nil, {"a=1"}, {`a="`}} {
			v, e := values.Of(nil, texts, sets)
			wrong(t, "Of no chart", v, e, api.ErrNil)
		}
	}
}

func TestOfLeavesOtherFilesOut(t *testing.T) {
	c, _, e := chart.New(
		api.File{Name: "Chart.yaml", Text: "name: web\nversion: v1\na: 1"},
		api.File{Name: "templates/values.yaml", Text: "a: 2"},
		api.File{Name: "charts/values.yaml", Text: "a: 3"},
	)
	if e != api.OK {
		t.Fatal(e)
	}
	v, e := values.Of(c, []string{"b: 1"}, nil)
	is(t, "Of a chart without values", v, e, of("b", num(1)))
}

func TestDot(t *testing.T) {
	about := of("Name", str("web"), "Version", str("v1"))
	for _, v := range []api.Value{tree.Null(), num(1), tree.List(num(1)), of(), of("a", of("b", num(2))), of("Chart", num(1), "Values", num(2))} {
		for _, release := range []string{"r", "web", "", "a b", "null"} {
			got := values.Dot(web(t, "x: 1"), v, release)
			is(t, "Dot of "+told(v), got, api.OK, of("Values", v, "Chart", about, "Release", of("Name", str(release))))
		}
	}
	c, _, e := chart.New(api.File{Name: "Chart.yaml", Text: "name: a/b\nversion: \"1\\n\""})
	if e != api.OK {
		t.Fatal(e)
	}
	got := values.Dot(c, tree.Null(), "r")
	is(t, "Dot of another chart", got, api.OK, of("Chart", of("Name", str("a/b"), "Version", str("1\n")), "Release", of("Name", str("r")), "Values", tree.Null()))
}

func TestDotOfNoChart(t *testing.T) {
	for _, v := range []api.Value{tree.Null(), of("a", num(1))} {
		is(t, "Dot of no chart", values.Dot(nil, v, "r"), api.OK, tree.Null())
	}
}

func TestDotIsWhatTemplatesSee(t *testing.T) {
	c, _, e := chart.New(
		api.File{Name: "Chart.yaml", Text: "name: web\nversion: v1"},
		api.File{Name: "values.yaml", Text: "a: 1\nb: {c: 2}"},
		api.File{Name: "templates/a", Text: "{{ .Release.Name }} {{ .Chart.Name }} {{ .Chart.Version }} {{ .Values.a }} {{ .Values.b.c }}"},
	)
	if e != api.OK {
		t.Fatal(e)
	}
	v, e := values.Of(c, []string{"a: 3"}, []string{"b.c=x"})
	if e != api.OK {
		t.Fatal(e)
	}
	l, name, e := c.Run(values.Dot(c, v, "first"))
	if e != api.OK || len(l) != 1 || l[0].Text != "first web v1 3 x" {
		t.Errorf("%s, %q, %d", told(l), name, e)
	}
}
