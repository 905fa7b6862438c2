package path_test

import (
	"slices"
	"strconv"
	"testing"

	"mizzen/api"
	"mizzen/path"
	"mizzen/sample"
	"mizzen/tree"
)

// calls does each call that takes values with these; what is answered.
func calls(v, x api.Value, steps []string) []api.Value {
	got, _ := path.Get(v, steps...)
	out := []api.Value{
		got,
		path.Put(v, x, steps...),
		path.Put(x, v, steps...),
		path.Drop(v, steps...),
		path.Prune(v, steps...),
	}
	for _, l := range path.Leaves(v) {
		out = append(out, l.Value)
	}
	return out
}

func TestAnythingIsTakenAndLeftAsItIs(t *testing.T) {
	l := slices.Concat(sample.Faulty(), sample.Plain(), values()[390:])
	hard := append(paths(), []string{""}, []string{"b", "a"}, []string{"\xff", "", "a\tb"}, []string{"a", "", "b"})
	x := tree.Map(pair("x", tree.List(one(1))))
	for _, v := range append(l, x) {
		for _, steps := range hard {
			steps = slices.Clip(steps)
			was := dump([]any{v, x, steps})
			for _, got := range calls(v, x, steps) {
				sample.Spoil(got)
			}
			path.Print(steps...)
			path.Parse(path.Print(steps...))
			if now := dump([]any{v, x, steps}); now != was {
				t.Fatalf("was %s, is %s", was, now)
			}
		}
	}
}

func TestWhatIsHandedInIsNotKept(t *testing.T) {
	steps := []string{"a", "b"}
	x := tree.List(one(1))
	v := tree.Map(pair("a", tree.Map(pair("b", tree.List(one(2))), pair("c", tree.List(one(3))))))
	answers, leaves := calls(v, x, steps), path.Leaves(v)
	was := dump(answers) + dump(leaves)
	sample.Spoil(v)
	sample.Spoil(x)
	steps[0], steps[1] = "y", "z"
	if now := dump(answers) + dump(leaves); now != was {
		t.Errorf("was %s, is %s", was, now)
	}
}

func TestStepsOfLeavesAreTheirOwn(t *testing.T) {
	v := one(0)
	for range 9 {
		v = tree.Map(pair("a", v), pair("b", one(1)), pair("c", one(2)))
	}
	leaves := path.Leaves(v)
	for i, l := range leaves {
		if x, ok := path.Get(v, l.Steps...); !ok || !tree.Same(x, l.Value) {
			t.Fatalf("leaf %d: %s", i, dump(l))
		}
		_ = append(l.Steps, "more")
		for j := range l.Steps {
			l.Steps[j] = "spoiled"
		}
	}
}

func TestTheRoomBehindTheStepsIsLeftAsItIs(t *testing.T) {
	steps := []string{"a", "b", "room"}
	v := tree.Map(pair("a", tree.Map(pair("b", one(1)))))
	calls(v, one(2), steps[:2])
	path.Print(steps[:2]...)
	path.Begins(steps[:2], steps[:1])
	want(t, "steps", steps, []string{"a", "b", "room"})
}

func TestDeepValuesAreTaken(t *testing.T) {
	const deep = 65535
	v := sample.Maps(deep, one(1))
	steps := slices.Repeat([]string{"a"}, deep)
	if x, ok := path.Get(v, steps...); !ok || x.Int != 1 {
		t.Error("what stands at the end isn't there")
	}
	if n := tree.Depth(path.Put(v, one(2), steps...)); n != deep+1 {
		t.Errorf("depth %d", n)
	}
	if n := tree.Depth(path.Drop(v, steps...)); n != deep {
		t.Errorf("depth %d", n)
	}
	if got := path.Prune(v, steps...); got.Kind != api.Map || len(got.Map) != 0 {
		t.Error("something is left")
	}
	if l := path.Leaves(v); len(l) != 1 || len(l[0].Steps) != deep {
		t.Error("leaves")
	}
	calls(sample.Nest(deep, one(1)), one(1), steps)
}

func TestManyStepsAreTaken(t *testing.T) {
	steps := make([]string, 1<<20)
	for i := range steps {
		steps[i] = strconv.Itoa(i)
	}
	got := path.Put(one(1), one(2), steps...)
	for i := range steps {
		if len(got.Map) != 1 || got.Map[0].Key != steps[i] {
			t.Fatalf("step %d", i)
		}
		got = got.Map[0].Value
	}
	want(t, "at the end", got, one(2))
	want(t, "Drop", path.Drop(one(1), steps...), one(1))
	want(t, "Prune", path.Prune(one(1), steps...), one(1))
	if path.Print(steps...) == "" || !path.Begins(steps, steps) {
		t.Error("Print, Begins")
	}
}
