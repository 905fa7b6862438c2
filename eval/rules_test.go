package eval_test

import (
	"math"
	"math/rand/v2"
	"slices"
	"strings"
	"testing"

	"mizzen/api"
	"mizzen/eval"
	"mizzen/parse"
	"mizzen/sample"
)

// With more fuel an answer that isn't ErrFuel is the same, and as much is used.
func TestMoreFuelChangesNothing(t *testing.T) {
	w := &writer{Rand: rand.New(rand.NewPCG(9, 2))}
	for range 1500 {
		s := w.template().ours
		d, l := read(t, s)
		dot := pick(w, dots()...)
		want, left, e := eval.Run(d, l, dot, api.MaxFuel)
		if text, same := eval.Text(s, dot); text != want || same != e {
			t.Errorf("Text(%.300q) = %.100q, %d, want %.100q, %d", s, text, same, want, e)
		}
		if e == api.ErrFuel {
			continue
		}
		used := api.MaxFuel - left
		for _, fuel := range []int{used, used + 1, used + w.IntN(100), min(used*2, api.MaxFuel)} {
			wantRun(t, d, l, dot, fuel, want, fuel-used, e)
		}
		for _, fuel := range []int{0, used / 2, used - 1} {
			wantRun(t, d, l, dot, fuel, "", 0, api.ErrFuel)
		}
	}
}

// Whatever templates call each other, a run ends.
func TestEveryRunEnds(t *testing.T) {
	const twice = `{{ define "d" }}{{ include "d" . }}{{ include "d" . }}{{ end }}{{ include "d" . }}`
	fails(t, twice, null(), api.ErrDeep)
	const many = `{{ define "d" }}{{ if . }}{{ include "d" (sub . 1) }}{{ include "d" (sub . 1) }}{{ end }}{{ end }}{{ include "d" 14 }}`
	fails(t, many, null(), api.ErrFuel)
	fails(t, `{{ define "d" }}{{ range . }}{{ range . }}{{ end }}{{ $x := 1 }}{{ end }}{{ end }}{{ range . }}{{ include "d" . }}{{ end }}`, list(slices.Repeat([]api.Value{list(slices.Repeat([]api.Value{list(num(1))}, 60)...)}, 60)...), api.ErrFuel)
	fails(t, "{{ 1"+strings.Repeat("|print", 10000)+" }}", null(), api.ErrFuel)
	gives(t, "{{ 1"+strings.Repeat("|print", 9998)+" }}", null(), "1")
}

// anyExpr is some expression, whatever layer 7 answers, at most so deep.
func anyExpr(r *rand.Rand, values []api.Value, most int) parse.Expr {
	x := parse.Expr{
		Kind:  r.IntN(6) - 1,
		Value: values[r.IntN(len(values))],
		Name:  []string{"", "x", "include", "print", "list", "nope", "\xff"}[r.IntN(7)],
		Steps: [][]string{nil, {}, {""}, {"a"}, {"a", "b"}, {"\xff"}}[r.IntN(6)],
	}
	for most > 1 && r.IntN(2) == 0 {
		x.Args = append(x.Args, anyExpr(r, values, most-1))
	}
	return x
}

func anyNodes(r *rand.Rand, values []api.Value, most int) []parse.Node {
	if most == 0 {
		return nil
	}
	var l []parse.Node
	for range r.IntN(4) {
		l = append(l, parse.Node{
			Kind: []int{math.MinInt, -1, 0, 1, 2, 3, 4, 5, 6, 7, math.MaxInt}[r.IntN(11)],
			Text: []string{"", "a", "{{", "\xff"}[r.IntN(4)],
			Expr: anyExpr(r, values, 3),
			Key:  []string{"", "x", "\xff"}[r.IntN(3)],
			Name: []string{"", "x", "a", "\xff"}[r.IntN(4)],
			Body: anyNodes(r, values, most-1),
			Else: anyNodes(r, values, most-1),
		})
	}
	return l
}

func TestAnyNodesAreTaken(t *testing.T) {
	r := rand.New(rand.NewPCG(9, 3))
	values := slices.Concat(sample.Plain(), sample.Faulty()[:14], []api.Value{list(num(1), str("a")), of("a", of("b", num(1)))})
	for range 4000 {
		l, dot := anyNodes(r, values, 3), values[r.IntN(len(values))]
		d := eval.Defs{"a": anyNodes(r, values, 2), "": nil}
		was := told(l) + told(d) + told(dot)
		fuel := r.IntN(200) - 50
		s, left, e := eval.Run(d, l, dot, fuel)
		if left < 0 || left > max(fuel, 0) || e != api.OK && s != "" || e == api.ErrFuel && left != 0 || len(s) > api.MaxText {
			t.Fatalf("Run of %s with %d: %q, %d, %d", told(l), fuel, s, left, e)
		}
		all, wrong := eval.Collect(d, l)
		if wrong != api.OK && (wrong != api.ErrTwice || len(all) != 0) {
			t.Fatalf("Collect of %s: %v, %d", told(l), all, wrong)
		}
		again, same, too := eval.Run(d, l, dot, fuel)
		if again != s || same != left || too != e {
			t.Fatalf("Run of %s isn't the same again", told(l))
		}
		if told(l)+told(d)+told(dot) != was {
			t.Fatalf("changed: was %s", was)
		}
	}
}

func TestAnyTextIsTaken(t *testing.T) {
	for _, s := range sample.Texts(4, "a.$(| 1\"{}-\n\xff\x00") {
		for _, whole := range []string{s, "{{" + s + "}}", "{{range $x:=" + s + "}}{{$x}}{{end}}"} {
			got, e := eval.Text(whole, of("a", list(num(1))))
			_, wrong := parse.Parse(whole)
			if e != api.OK && got != "" || wrong != api.OK && e != wrong {
				t.Errorf("Text(%q) = %q, %d, and Parse %d", whole, got, e, wrong)
			}
		}
	}
}

// nested are nodes that stand in so many others.
func nested(n int, l []parse.Node) []parse.Node {
	truth := parse.Expr{Value: yes()}
	for i := range n {
		if i%2 == 0 {
			l = []parse.Node{{Kind: parse.If, Expr: truth, Body: l}}
		} else {
			l = []parse.Node{{Kind: parse.If, Else: l}}
		}
	}
	return l
}

func TestDeepNodesAndValuesAreTaken(t *testing.T) {
	x := []parse.Node{{Kind: parse.Text, Text: "x"}}
	wantRun(t, nil, nested(4999, x), null(), api.MaxFuel, "x", 1, api.OK)
	wantRun(t, nil, nested(5000, x), null(), api.MaxFuel, "", 0, api.ErrFuel)
	deep := nested(65000, x)
	wantRun(t, nil, deep, null(), api.MaxFuel, "", 0, api.ErrFuel)
	chained := parse.Expr{Kind: parse.Call, Name: "print"}
	for range 65000 {
		chained = parse.Expr{Kind: parse.Call, Name: "print", Args: []parse.Expr{chained}}
	}
	defining := []parse.Node{{Kind: parse.Define, Name: "a", Body: deep}, {Kind: parse.Define, Name: "b", Body: []parse.Node{{Kind: parse.Out, Expr: chained}}}}
	if d, e := eval.Collect(nil, defining); len(d) != 2 || e != api.OK {
		t.Errorf("Collect of deep nodes: %d, %d", len(d), e)
	}
	for want, v := range map[string]api.Value{"x": sample.Nest(65000, num(1)), "{}x": sample.Maps(65000, num(1))} {
		gives(t, "{{ $x := . }}{{ with $x }}{{ range . }}{{ .a.a.a }}{{ end }}{{ end }}x", v, want)
		fails(t, "{{ list . }}", v, api.ErrDeep)
	}
}

func TestWhatIsHandedInIsNotChanged(t *testing.T) {
	const s = `{{ define "d" }}{{ range $k, $v := . }}{{ $k }}{{ $v := list $v . }}{{ end }}{{ end }}{{ $x := .m }}{{ with $x }}{{ include "d" . }}{{ end }}{{ list .l .l }}{{ default nil .m.b }}`
	d, l := read(t, s)
	room := make([]api.Value, 3, 8)
	dot := of("l", list(room...), "m", of("a", num(1), "b", list(num(2), of("c", num(3)))))
	was := told(d) + told(l) + told(dot)
	for fuel := range 60 {
		eval.Run(d, l, dot, fuel)
	}
	gives(t, s, dot, "ab[][]")
	if now := told(d) + told(l) + told(dot); now != was {
		t.Errorf("was %s, is %s", was, now)
	}
}
