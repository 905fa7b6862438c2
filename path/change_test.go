package path_test

import (
	"slices"
	"testing"

	"mizzen/api"
	"mizzen/path"
	"mizzen/tree"
)

// The models here say the same as the calls, step by step, by layer 1's calls alone.

func modelPut(v, x api.Value, steps []string) api.Value {
	if len(steps) == 0 {
		return x
	}
	in, _ := tree.Get(v, steps[0])
	return tree.Put(v, steps[0], modelPut(in, x, steps[1:]))
}

func modelDrop(v api.Value, steps []string) api.Value {
	if len(steps) == 0 {
		return tree.Null()
	}
	in, ok := tree.Get(v, steps[0])
	switch {
	case !ok:
		return v
	case len(steps) == 1:
		return tree.Drop(v, steps[0])
	}
	return tree.Put(v, steps[0], modelDrop(in, steps[1:]))
}

func modelPrune(v api.Value, steps []string) api.Value {
	if _, ok := path.Get(v, steps...); !ok {
		return v
	}
	for {
		v = modelDrop(v, steps)
		if len(steps) < 2 {
			return v
		}
		steps = steps[:len(steps)-1]
		if in, _ := path.Get(v, steps...); len(in.Map) > 0 {
			return v
		}
	}
}

func TestPutDropPrune(t *testing.T) {
	for _, v := range values() {
		for _, steps := range paths() {
			want(t, "Put", path.Put(v, one(9), steps...), modelPut(v, one(9), steps))
			want(t, "Drop", path.Drop(v, steps...), modelDrop(v, steps))
			want(t, "Prune", path.Prune(v, steps...), modelPrune(v, steps))
		}
	}
}

func TestPutByExample(t *testing.T) {
	m := tree.Map
	want(t, "into nothing", path.Put(tree.Null(), one(3), "a", "b"), m(pair("a", m(pair("b", one(3))))))
	want(t, "of no step", path.Put(m(pair("a", one(1))), one(3)), one(3))
	want(t, "over a list", path.Put(m(pair("a", tree.List(one(1)))), one(3), "a", "0"), m(pair("a", m(pair("0", one(3))))))
	want(t, "beside others", path.Put(m(pair("a", m(pair("x", one(1)))), pair("c", one(2))), one(3), "a", "b"),
		m(pair("a", m(pair("b", one(3)), pair("x", one(1)))), pair("c", one(2))))
}

func TestDropByExample(t *testing.T) {
	m := tree.Map
	v := m(pair("a", m(pair("b", one(1)))), pair("c", one(2)))
	want(t, "of no step", path.Drop(v), tree.Null())
	want(t, "maps on the way stay", path.Drop(v, "a", "b"), m(pair("a", m()), pair("c", one(2))))
	want(t, "a map whole", path.Drop(v, "a"), m(pair("c", one(2))))
	want(t, "not there", path.Drop(v, "a", "x"), v)
	want(t, "no map on the way", path.Drop(v, "c", "x"), v)
	want(t, "nothing on the way", path.Drop(v, "x", "y", "z"), v)
	want(t, "no map", path.Drop(one(1), "a"), one(1))
}

func TestPruneByExample(t *testing.T) {
	m := tree.Map
	v := m(pair("a", m(pair("b", m(pair("c", one(1)))), pair("d", m()))), pair("e", one(2)))
	want(t, "of no step", path.Prune(v), tree.Null())
	want(t, "up to the first that isn't empty", path.Prune(v, "a", "b", "c"), m(pair("a", m(pair("d", m()))), pair("e", one(2))))
	want(t, "an empty map", path.Prune(v, "a", "d"), m(pair("a", m(pair("b", m(pair("c", one(1)))))), pair("e", one(2))))
	want(t, "not there", path.Prune(v, "a", "d", "x"), v)
	want(t, "no map on the way", path.Prune(v, "e", "x"), v)
	want(t, "the outermost map stays", path.Prune(m(pair("a", m(pair("b", one(3))))), "a", "b"), m())
	want(t, "one step", path.Prune(m(pair("a", one(3))), "a"), m())
}

func TestWhatIsPutIsThereAlone(t *testing.T) {
	for _, x := range []api.Value{one(9), tree.Null(), tree.Map(), tree.Map(pair("a", tree.Map(pair("b", one(8)))))} {
		for _, v := range values() {
			for _, steps := range paths() {
				checkPut(t, v, x, steps)
			}
		}
	}
}

func checkPut(t *testing.T, v, x api.Value, steps []string) {
	t.Helper()
	got := path.Put(v, x, steps...)
	there, ok := path.Get(got, steps...)
	if !ok || !tree.Same(there, x) || tree.Check(got) != api.OK {
		t.Fatalf("Put of %s at %q: %s", dump(v), steps, dump(got))
	}
	for _, other := range paths() {
		if path.Begins(other, steps) || path.Begins(steps, other) {
			continue
		}
		was, had := path.Get(v, other...)
		is, has := path.Get(got, other...)
		if had != has || !tree.Same(was, is) {
			t.Fatalf("Put of %s at %q changes %q: %s", dump(v), steps, other, dump(got))
		}
	}
}

func TestLeaves(t *testing.T) {
	m := tree.Map
	v := m(
		pair("a", m(pair("b", one(1)), pair("c", m()), pair("d", m(pair("e", tree.Null()))))),
		pair("a.b", tree.List(m(pair("x", one(1))))),
		pair("f", tree.Str("t")),
	)
	want(t, "Leaves", path.Leaves(v), []path.Leaf{
		{Steps: []string{"a", "b"}, Value: one(1)},
		{Steps: []string{"a", "c"}, Value: m()},
		{Steps: []string{"a", "d", "e"}, Value: tree.Null()},
		{Steps: []string{"a.b"}, Value: tree.List(m(pair("x", one(1))))},
		{Steps: []string{"f"}, Value: tree.Str("t")},
	})
	for _, v := range []api.Value{tree.Null(), one(1), tree.Str("a"), tree.List(), tree.List(one(1)), m()} {
		want(t, "Leaves of what is one", path.Leaves(v), []path.Leaf{{Value: v}})
	}
}

func TestAValueIsItsLeaves(t *testing.T) {
	for _, v := range values() {
		forward, back := tree.Null(), tree.Null()
		leaves := path.Leaves(v)
		for _, l := range leaves {
			if x, ok := path.Get(v, l.Steps...); !ok || !tree.Same(x, l.Value) {
				t.Errorf("no leaf of %s: %s", dump(v), dump(l))
			}
			forward = path.Put(forward, l.Value, l.Steps...)
		}
		for _, l := range slices.Backward(leaves) {
			back = path.Put(back, l.Value, l.Steps...)
		}
		want(t, "leaves, put one by one", forward, v)
		want(t, "leaves, put from the last one back", back, v)
	}
}
