package layer_test

import (
	"fmt"
	"slices"
	"testing"

	"mizzen/api"
	"mizzen/layer"
	"mizzen/path"
	"mizzen/sample"
	"mizzen/tree"
)

func pair(key string, v api.Value) api.Pair { return api.Pair{Key: key, Value: v} }

func one(n int64) api.Value { return tree.Int(n) }

// want holds two values against each other, of which the second may be.
func want(t *testing.T, what string, got, wanted api.Value) {
	t.Helper()
	if !tree.Same(got, wanted) || tree.Check(got) != api.OK {
		t.Errorf("%.200s: got %+v, want %+v", what, got, wanted)
	}
}

// maps are all of the keys a and b that have a few values there, or nothing, or aren't there.
func maps() []api.Value {
	m := tree.Map
	values := []api.Value{
		tree.Null(), one(1), tree.List(m(pair("x", tree.Null()))), m(),
		m(pair("x", tree.Null())), m(pair("x", one(1))), m(pair("x", one(2)), pair("y", one(1))),
		m(pair("x", m(pair("z", tree.Null()))), pair("y", m())), m(pair("x", m(pair("z", one(3))))),
	}
	l := []api.Value{m()}
	for _, a := range values {
		l = append(l, m(pair("a", a)), m(pair("b", a)))
		for _, b := range values {
			l = append(l, m(pair("a", a), pair("b", b)))
		}
	}
	return l
}

// values are maps, and values of all kinds.
func values() []api.Value {
	return slices.Concat(maps(), sample.Values()[:150])
}

// plain are the ones of some values that are it.
func plain(l []api.Value) []api.Value {
	return slices.DeleteFunc(l, func(v api.Value) bool { return !modelPlain(v) })
}

// The models here say the same as the calls, word by word, by layer 1's calls alone.

func modelPlain(v api.Value) bool {
	return v.Kind != api.Map || !slices.ContainsFunc(v.Map, func(p api.Pair) bool {
		return p.Value.Kind == api.Null || !modelPlain(p.Value)
	})
}

func modelStripped(v api.Value) api.Value {
	if v.Kind != api.Map {
		return v
	}
	out := tree.Map()
	for _, p := range v.Map {
		if p.Value.Kind != api.Null {
			out = tree.Put(out, p.Key, modelStripped(p.Value))
		}
	}
	return out
}

func modelOver(a, b api.Value) api.Value {
	if a.Kind != api.Map || b.Kind != api.Map {
		return modelStripped(b)
	}
	out := a
	for _, p := range b.Map {
		if p.Value.Kind == api.Null {
			out = tree.Drop(out, p.Key)
		} else if stood, ok := tree.Get(a, p.Key); ok {
			out = tree.Put(out, p.Key, modelOver(stood, p.Value))
		} else {
			out = tree.Put(out, p.Key, modelStripped(p.Value))
		}
	}
	return out
}

func modelDiff(a, b api.Value) api.Value {
	out := tree.Map()
	for _, p := range a.Map {
		if _, ok := tree.Get(b, p.Key); !ok {
			out = tree.Put(out, p.Key, tree.Null())
		}
	}
	for _, p := range b.Map {
		had, ok := tree.Get(a, p.Key)
		switch {
		case ok && tree.Same(had, p.Value):
		case had.Kind == api.Map && p.Value.Kind == api.Map:
			out = tree.Put(out, p.Key, modelDiff(had, p.Value))
		default:
			out = tree.Put(out, p.Key, p.Value)
		}
	}
	return out
}

func TestOver(t *testing.T) {
	l := values()
	for _, a := range l {
		for _, b := range l {
			want(t, fmt.Sprintf("%+v over %+v", b, a), layer.Over(a, b), modelOver(a, b))
		}
	}
}

func TestOverByExample(t *testing.T) {
	m, null := tree.Map, tree.Null()
	inList := tree.List(m(pair("x", null)), null)
	for _, c := range []struct {
		what      string
		a, b, out api.Value
	}{
		{"the document's", m(pair("a", one(1)), pair("b", m(pair("c", one(2))))), m(pair("a", null), pair("b", m(pair("d", one(3))))),
			m(pair("b", m(pair("c", one(2)), pair("d", one(3)))))},
		{"the first one's nothing stays", m(pair("a", null), pair("b", m(pair("c", null)))), m(pair("b", m(pair("d", one(1))))),
			m(pair("a", null), pair("b", m(pair("c", null), pair("d", one(1)))))},
		{"over nothing that stood there", m(pair("a", null)), m(pair("a", m(pair("x", null), pair("y", one(1))))), m(pair("a", m(pair("y", one(1)))))},
		{"nothing where nothing stood", m(), m(pair("a", null)), m()},
		{"nothing over nothing", m(pair("a", null)), m(pair("a", null)), m()},
		{"alone it is stripped", m(), m(pair("a", m(pair("b", null), pair("c", m(pair("d", null)))))), m(pair("a", m(pair("c", m()))))},
		{"a map over a number is stripped", m(pair("a", one(1))), m(pair("a", m(pair("b", null)))), m(pair("a", m()))},
		{"a map over a list", m(pair("a", tree.List(one(1)))), m(pair("a", m(pair("b", one(2))))), m(pair("a", m(pair("b", one(2)))))},
		{"a number over a map", m(pair("a", m(pair("b", one(1))))), m(pair("a", one(2))), m(pair("a", one(2)))},
		{"an empty map takes nothing out", m(pair("a", m(pair("b", one(1))))), m(pair("a", m())), m(pair("a", m(pair("b", one(1)))))},
		{"lists aren't made one", m(pair("a", tree.List(one(1), one(2)))), m(pair("a", tree.List(one(3)))), m(pair("a", tree.List(one(3))))},
		{"within lists all stays", m(pair("a", one(1))), m(pair("a", inList)), m(pair("a", inList))},
		{"a list alone", one(1), inList, inList},
		{"nothing alone", m(pair("a", one(1))), null, null},
		{"a map over what is none", tree.Str("x"), m(pair("a", null), pair("b", one(1))), m(pair("b", one(1)))},
		{"a map over nothing", null, m(pair("a", m(pair("b", null)))), m(pair("a", m()))},
		{"what is no map over a map", m(pair("a", one(1))), tree.Str(""), tree.Str("")},
		{"keys by turns", m(pair("b", one(1)), pair("d", one(1)), pair("e", one(1))), m(pair("a", one(2)), pair("c", one(2)), pair("d", one(2)), pair("f", one(2))),
			m(pair("a", one(2)), pair("b", one(1)), pair("c", one(2)), pair("d", one(2)), pair("e", one(1)), pair("f", one(2)))},
	} {
		want(t, c.what, layer.Over(c.a, c.b), c.out)
	}
}

func TestAll(t *testing.T) {
	m, null := tree.Map, tree.Null()
	want(t, "of none", layer.All(), m())
	want(t, "of one, laid over an empty map", layer.All(m(pair("a", null), pair("b", m(pair("c", null))))), m(pair("b", m())))
	want(t, "of what is no map", layer.All(one(1)), one(1))
	want(t, "of nothing", layer.All(null), null)
	want(t, "a map over nothing", layer.All(null, m(pair("a", one(1)))), m(pair("a", one(1))))
	want(t, "taken out, and laid anew", layer.All(m(pair("a", m(pair("b", one(1))))), m(pair("a", null)), m(pair("a", m(pair("c", one(2)))))),
		m(pair("a", m(pair("c", one(2))))))
	want(t, "from the left", layer.All(m(pair("a", m(pair("b", one(1))))), m(pair("a", one(2))), m(pair("a", m(pair("c", one(3)))))),
		m(pair("a", m(pair("c", one(3))))))
	l := maps()
	for i, a := range l {
		b, c := l[(i*7+3)%len(l)], l[(i*5+1)%len(l)]
		want(t, "of two", layer.All(a, b), modelOver(modelOver(m(), a), b))
		want(t, "of three", layer.All(a, b, c), modelOver(modelOver(modelOver(m(), a), b), c))
	}
}

func TestPlain(t *testing.T) {
	m, null := tree.Map, tree.Null()
	for _, c := range []struct {
		v     api.Value
		plain bool
	}{
		{null, true},
		{one(0), true},
		{m(), true},
		{m(pair("a", m())), true},
		{tree.List(null), true},
		{tree.List(m(pair("a", null))), true},
		{m(pair("a", tree.List(m(pair("b", null)), null))), true},
		{m(pair("a", null)), false},
		{m(pair("a", one(1)), pair("b", null)), false},
		{m(pair("a", m(pair("b", m(pair("c", null))))), pair("d", one(1))), false},
	} {
		if got := layer.Plain(c.v); got != c.plain {
			t.Errorf("Plain of %+v: %v", c.v, got)
		}
	}
	for _, v := range values() {
		stripped := layer.Over(tree.Null(), v)
		if got := layer.Plain(v); got != modelPlain(v) || got != tree.Same(v, stripped) || !layer.Plain(stripped) {
			t.Errorf("Plain of %+v: %v", v, got)
		}
	}
}

func TestDiffByExample(t *testing.T) {
	m, null := tree.Map, tree.Null()
	for _, c := range []struct {
		what      string
		a, b, out api.Value
	}{
		{"nothing of none", m(), m(), m()},
		{"the same", m(pair("a", m(pair("b", one(1))))), m(pair("a", m(pair("b", one(1))))), m()},
		{"only in the first", m(pair("a", m(pair("b", one(1)))), pair("c", one(1))), m(), m(pair("a", null), pair("c", null))},
		{"only in the second", m(), m(pair("a", m(pair("b", one(1)))), pair("c", m())), m(pair("a", m(pair("b", one(1)))), pair("c", m()))},
		{"other values", m(pair("a", one(1)), pair("b", one(2))), m(pair("a", one(1)), pair("b", tree.Str("2"))), m(pair("b", tree.Str("2")))},
		{"maps in maps", m(pair("a", m(pair("b", one(1)), pair("c", one(2)), pair("d", one(3))))), m(pair("a", m(pair("b", one(1)), pair("c", one(4))))),
			m(pair("a", m(pair("c", one(4)), pair("d", null))))},
		{"an empty map for a full one", m(pair("a", m(pair("b", one(1))))), m(pair("a", m())), m(pair("a", m(pair("b", null))))},
		{"an empty map for a number", m(pair("a", one(1))), m(pair("a", m())), m(pair("a", m()))},
		{"a number for a map", m(pair("a", m(pair("b", one(1))))), m(pair("a", one(1))), m(pair("a", one(1)))},
		{"lists are whole", m(pair("a", tree.List(one(1), one(2)))), m(pair("a", tree.List(one(1)))), m(pair("a", tree.List(one(1))))},
		{"keys by turns", m(pair("b", one(1)), pair("d", one(1)), pair("e", one(1))), m(pair("a", one(1)), pair("c", one(1)), pair("d", one(2)), pair("f", one(1))),
			m(pair("a", one(1)), pair("b", null), pair("c", one(1)), pair("d", one(2)), pair("e", null), pair("f", one(1)))},
	} {
		want(t, c.what, layer.Diff(c.a, c.b), c.out)
	}
}

func TestDiffLaidOverTheFirstIsTheSecond(t *testing.T) {
	l := plain(values())
	for _, a := range l {
		for _, b := range l {
			d := layer.Diff(a, b)
			want(t, fmt.Sprintf("Diff of %+v and %+v, laid over", a, b), layer.Over(a, d), b)
			if a.Kind == api.Map && b.Kind == api.Map {
				want(t, fmt.Sprintf("Diff of %+v and %+v", a, b), d, modelDiff(a, b))
			}
		}
	}
}

func TestAnEmptyMapChangesNothing(t *testing.T) {
	for _, v := range maps() {
		want(t, "an empty map laid over", layer.Over(v, tree.Map()), v)
	}
}

func TestAPlainValueOverItselfIsItself(t *testing.T) {
	for _, v := range plain(values()) {
		want(t, "laid over itself", layer.Over(v, v), v)
		want(t, "laid over itself again and again", layer.All(v, v, v), v)
	}
}

func TestWhatIsLaidLastStands(t *testing.T) {
	l := plain(values())
	for i, a := range l {
		for _, b := range l[i/2:] {
			got := layer.Over(a, b)
			for _, leaf := range path.Leaves(b) {
				x, ok := path.Get(got, leaf.Steps...)
				// Over an empty map stands what stood there, if that was a map.
				if !ok || x.Kind != leaf.Value.Kind || x.Kind != api.Map && !tree.Same(x, leaf.Value) {
					t.Fatalf("%+v over %+v: at %q stands %+v", b, a, leaf.Steps, x)
				}
			}
		}
	}
}
