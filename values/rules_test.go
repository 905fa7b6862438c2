package values_test

import (
	"math/rand/v2"
	"slices"
	"strconv"
	"strings"
	"testing"

	"mizzen/api"
	"mizzen/chart"
	"mizzen/path"
	"mizzen/sample"
	"mizzen/tree"
	"mizzen/values"
	"mizzen/yaml"
)

// modelOver is b laid over a, pair by pair, by layer 1's calls alone.
func modelOver(a, b api.Value) api.Value {
	if b.Kind != api.Map {
		return b
	}
	if a.Kind != api.Map {
		a = tree.Map()
	}
	for _, p := range b.Map {
		if p.Value.Kind == api.Null {
			a = tree.Drop(a, p.Key)
			continue
		}
		here, _ := tree.Get(a, p.Key)
		a = tree.Put(a, p.Key, modelOver(here, p.Value))
	}
	return a
}

// modelSet is a value with another one set at a path: the maps on the way are made, nothing takes out what stands there.
func modelSet(v, x api.Value, steps ...string) api.Value {
	if len(steps) == 1 && x.Kind == api.Null {
		return tree.Drop(modelOver(v, tree.Map()), steps[0])
	}
	if len(steps) == 1 {
		return tree.Put(v, steps[0], x)
	}
	in, _ := tree.Get(v, steps[0])
	return tree.Put(v, steps[0], modelSet(in, x, steps[1:]...))
}

// one is a choice of the list.
func one[T any](r *rand.Rand, l []T) T { return l[r.IntN(len(l))] }

// words are some, with what each is the word of.
func words() ([]string, []api.Value) {
	return []string{"1", "", "x", `"1"`, "'~'", "null", "true", "a=b", "-5", `""`},
		[]api.Value{num(1), tree.Null(), str("x"), str("1"), str("~"), tree.Null(), tree.Bool(true), str("a=b"), num(-5), str("")}
}

// set is one, by chance: written, its path, its value.
func set(r *rand.Rand) (string, []string, api.Value) {
	var steps []string
	for range 1 + r.IntN(3) {
		steps = append(steps, one(r, []string{"a", "b", "c-1"}))
	}
	l, meant := words()
	i := r.IntN(len(l))
	return strings.Join(steps, ".") + "=" + l[i], steps, meant[i]
}

// maps are some that may be, with maps in each other.
func maps() []api.Value {
	l := []api.Value{of(), of("a", of("a", of("b", num(1)), "b", of())), of("a", of("b", tree.List(tree.Null())), "b", of("a", num(1), "c-1", num(2)), "c-1", num(3)), of("a", tree.Null(), "b", of("a", tree.Null()))}
	for _, v := range sample.Values() {
		if v.Kind == api.Map {
			l = append(l, v)
		}
	}
	return l
}

func TestSetBesideAModel(t *testing.T) {
	r := rand.New(rand.NewPCG(11, 1))
	l := maps()
	for range 20000 {
		v := one(r, l)
		s, steps, x := set(r)
		got, e := values.Set(v, s)
		is(t, "Set of "+told(v)+" by "+s, got, e, modelSet(v, x, steps...))
	}
}

func TestOfBesideAModel(t *testing.T) {
	r := rand.New(rand.NewPCG(11, 2))
	l := maps()
	for range 4000 {
		own := one(r, l)
		c := web(t, yaml.Emit(own))
		want := modelOver(tree.Map(), own)
		var texts, sets []string
		for range r.IntN(4) {
			v := one(r, append(l[:9:9], tree.Null()))
			texts = append(texts, yaml.Emit(v))
			if v.Kind == api.Map {
				want = modelOver(want, v)
			}
		}
		for range r.IntN(5) {
			s, steps, x := set(r)
			sets = append(sets, s)
			want = modelSet(want, x, steps...)
		}
		got, e := values.Of(c, texts, sets)
		is(t, "Of "+told(own)+" with "+told(texts)+", "+told(sets), got, e, want)
	}
}

func TestWhatIsSetLastStands(t *testing.T) {
	r := rand.New(rand.NewPCG(11, 3))
	l := maps()
	for range 4000 {
		var texts, sets []string
		for range r.IntN(3) {
			texts = append(texts, yaml.Emit(one(r, l)))
		}
		var steps []string
		var x api.Value
		for range 1 + r.IntN(6) {
			var s string
			s, steps, x = set(r)
			sets = append(sets, s)
		}
		v, e := values.Of(web(t, yaml.Emit(one(r, l))), texts, sets)
		there, ok := path.Get(v, steps...)
		if e != api.OK || ok != (x.Kind != api.Null) || !tree.Same(there, x) {
			t.Errorf("Of with %s, %s: %s, %d", told(texts), told(sets), told(v), e)
		}
		rest, e := values.Of(web(t, yaml.Emit(v)), nil, nil)
		is(t, "what is answered, as own values", rest, e, v)
	}
}

func TestWhatComesOfOneDoesNotHangOnAnother(t *testing.T) {
	c := web(t, "a: 1")
	for range 3 {
		v, e := values.Of(c, []string{"b: 2"}, []string{"c=3"})
		is(t, "Of", v, e, of("a", num(1), "b", num(2), "c", num(3)))
		v, e = values.Of(c, []string{"a:", "["}, nil)
		wrong(t, "Of", v, e, api.ErrForm)
		v, e = values.Of(c, nil, nil)
		is(t, "Of", v, e, of("a", num(1)))
		is(t, "Dot", values.Dot(c, v, "r"), api.OK, of("Chart", of("Name", str("web"), "Version", str("v1")), "Release", of("Name", str("r")), "Values", v))
	}
}

// charts are some, none, and some that New didn't make.
func charts(t *testing.T) []*chart.Chart {
	l := []*chart.Chart{nil, {}, web(t, ""), web(t, "a: {b: [1]}\nc: 1")}
	for _, v := range append(sample.Faulty(), sample.Nest(65000, num(1)), sample.Maps(65000, num(1))) {
		l = append(l, &chart.Chart{Name: "\xff", Version: "\x00", Values: v})
	}
	return l
}

func TestAnyValuesAreTakenAndLeftAsTheyAre(t *testing.T) {
	l := slices.Concat(sample.Faulty(), sample.Plain(), maps()[:20])
	asked := []string{"", "=", "a=1", "a.b=", "b=x", `c='`, "a.a.a.a=~", "\xff=1"}
	for _, v := range l {
		for _, s := range asked {
			was := told(v)
			got, e := values.Set(v, s)
			if e != api.OK && told(got) != told(api.Value{}) || e == api.OK && tree.Check(got) != api.OK {
				t.Fatalf("Set of %s by %q: %s, %d", was, s, told(got), e)
			}
			sample.Spoil(got)
			sample.Spoil(values.Dot(web(t, ""), v, s))
			if now := told(v); now != was {
				t.Fatalf("was %s, is %s", was, now)
			}
		}
	}
}

func TestAnyChartsAreTaken(t *testing.T) {
	for _, c := range charts(t) {
		for _, texts := range [][]string{nil, {""}, {"a: 1"}, {"a: {b: 1}", "["}} {
			for _, sets := range [][]string{nil, {"a=1"}, {"a.a.a=", "x"}} {
				if v, e := values.Of(c, texts, sets); e != api.OK && v.Kind != api.Null {
					t.Errorf("%d, and kind %d", e, v.Kind)
				}
			}
		}
		values.Dot(c, of("a", num(1)), "\xff")
		if c != nil {
			values.Dot(c, c.Values, "r")
			values.Set(c.Values, "a.b=1")
		}
	}
	v, e := values.Set(sample.Maps(65000, num(1)), "b=1")
	wrong(t, "65000 maps in each other", v, e, api.ErrDeep)
}

func TestAnyTextsAreTaken(t *testing.T) {
	v := of("a", of("a", num(1)), "b", num(2))
	c := web(t, "a: 1")
	for _, s := range sample.Texts(5, "a=.\"'\\1 \n") {
		got, e := values.Set(v, s)
		if e != api.OK && told(got) != told(api.Value{}) || e == api.OK && (tree.Check(got) != api.OK || !strings.HasPrefix(s, "a") && !strings.HasPrefix(s, "1")) {
			t.Errorf("Set by %q: %s, %d", s, told(got), e)
		}
		if x, e := values.Word(s); e != api.OK && told(x) != told(api.Value{}) {
			t.Errorf("Word of %q: %s, %d", s, told(x), e)
		}
		if got, e := values.Of(c, []string{s}, []string{s}); e != api.OK && told(got) != told(api.Value{}) {
			t.Errorf("Of with %q: %s, %d", s, told(got), e)
		}
	}
	for b := range 256 {
		s := string([]byte{byte(b)})
		values.Set(v, s+"="+s)
		values.Word(s)
		values.Of(c, []string{s}, []string{s})
	}
	long := strings.Repeat("=", 1<<20)
	for _, s := range []string{long, "a" + long, strings.Repeat("a.", 1<<20), strings.Repeat(".", 1<<20) + "=", `a="` + long, "a='" + long + "'", xs(1 << 20)} {
		got, e := values.Set(v, s)
		if e == api.OK || told(got) != told(api.Value{}) {
			t.Errorf("Set by %.20q: %.200s, %d", s, told(got), e)
		}
	}
}

func TestWhatIsHandedInIsNotChangedAndNotKept(t *testing.T) {
	c := web(t, "a: {b: [1, [2]]}\nd: 1")
	texts, sets := []string{"a: {c: [3]}", "e: [4]", "room: 1"}, []string{"a.x=1", "f.g=2", "room"}
	v := of("a", of("b", tree.List(num(1), tree.List(num(2)))), "d", tree.List(num(1)))
	was := told(v) + told(*c) + told(texts) + told(sets)
	answers := []api.Value{values.Dot(c, v, "r")}
	got, e := values.Of(c, texts[:2], sets[:2])
	if e != api.OK {
		t.Fatal(e)
	}
	answers = append(answers, got)
	got, e = values.Set(v, "a.c=1")
	if e != api.OK {
		t.Fatal(e)
	}
	answers = append(answers, got)
	for i, got := range answers {
		if !sample.Apart(tree.Clone(got)) || !sample.Apart(answers[i]) {
			t.Errorf("answer %d has one list twice", i)
		}
		sample.Spoil(got)
	}
	if now := told(v) + told(*c) + told(texts) + told(sets); now != was {
		t.Errorf("was %s, is %s", was, now)
	}
}

func TestAnswersHaveMemoryOfTheirOwn(t *testing.T) {
	own := "a: {b: [1, [2]]}\nd: [1]"
	for name, call := range map[string]func(*chart.Chart, api.Value) api.Value{
		"Dot":              func(c *chart.Chart, v api.Value) api.Value { return values.Dot(c, v, "r") },
		"Set":              func(_ *chart.Chart, v api.Value) api.Value { got, _ := values.Set(v, "a.c=1"); return got },
		"Set over nothing": func(_ *chart.Chart, v api.Value) api.Value { got, _ := values.Set(v, "e="); return got },
		"Of":               func(c *chart.Chart, _ api.Value) api.Value { got, _ := values.Of(c, nil, nil); return got },
		"Of a text": func(c *chart.Chart, _ api.Value) api.Value {
			got, _ := values.Of(c, []string{"", "e: [1]"}, nil)
			return got
		},
		"Of a set": func(c *chart.Chart, _ api.Value) api.Value {
			got, _ := values.Of(c, nil, []string{"a.c=1"})
			return got
		},
	} {
		c, v := web(t, own), written(t, own)
		got := call(c, v)
		was := told(got)
		sample.Spoil(c.Values)
		sample.Spoil(v)
		if now := told(got); now != was {
			t.Errorf("%s: was %s, is %s", name, was, now)
		}
	}
}

func TestTheRoomBehindIsLeftAsItIs(t *testing.T) {
	pairs := []api.Pair{{Key: "a", Value: num(1)}, {Key: "room", Value: num(2)}, {Key: "room", Value: num(3)}}
	was := told(pairs)
	v := api.Value{Kind: api.Map, Map: pairs[:1]}
	for i := range 3 {
		if _, e := values.Set(v, "k"+strconv.Itoa(i)+"=1"); e != api.OK {
			t.Error(e)
		}
		values.Dot(web(t, ""), v, "r")
		values.Of(&chart.Chart{Values: v}, []string{"b: 1"}, []string{"c=1"})
	}
	if now := told(pairs); now != was {
		t.Errorf("was %s, is %s", was, now)
	}
}
