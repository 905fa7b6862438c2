package tree_test

import (
	"slices"
	"testing"

	"mizzen/api"
	"mizzen/sample"
	"mizzen/tree"
)

// calls does each call that takes values with these; what is answered.
func calls(a, b api.Value, key string) []api.Value {
	tree.Size(a)
	tree.Depth(a)
	tree.Check(a)
	tree.Truth(a)
	tree.Compare(a, b)
	tree.Same(a, b)
	got, _ := tree.Get(a, key)
	return []api.Value{
		got,
		tree.Clone(a),
		tree.List(a, b, a),
		tree.Map(pair(key, a), pair("k", b), pair("l", b), pair(key, a)),
		tree.Put(a, key, b),
		tree.Put(b, "\x00", a),
		tree.Drop(a, key),
	}
}

func TestAnyValuesAreTakenAndLeftAsTheyAre(t *testing.T) {
	l := slices.Concat(sample.Faulty(), sample.Plain(), sample.Values()[100:110])
	for _, a := range l {
		for _, b := range l {
			was := dump([]api.Value{a, b})
			for _, key := range []string{"", "a", "b", "\xff"} {
				for _, v := range calls(a, b, key) {
					sample.Spoil(v)
				}
			}
			if now := dump([]api.Value{a, b}); now != was {
				t.Fatalf("was %s, is %s", was, now)
			}
		}
	}
}

func TestDeepValuesAreTaken(t *testing.T) {
	for _, v := range []api.Value{sample.Nest(65535, one(1)), sample.Maps(65535, one(1))} {
		if n := tree.Depth(tree.Clone(v)); n != 65536 {
			t.Errorf("depth %d", n)
		}
		calls(v, tree.Clone(v), "a")
		if !tree.Same(v, tree.Clone(v)) {
			t.Error("a clone isn't the same")
		}
	}
}

func TestNoListOfAnAnswerIsSharedWithAnother(t *testing.T) {
	v := rawMap(pair("a", rawList(one(1))), pair("b", one(2)))
	for i, got := range calls(v, v, "a") {
		if !sample.Apart(got) {
			t.Errorf("answer %d has one list twice", i)
		}
	}
}

func TestTheRoomBehindIsLeftAsItIs(t *testing.T) {
	l := []api.Value{one(1), one(2), one(3)}
	m := []api.Pair{pair("b", one(1)), pair("a", one(2)), pair("b", one(3)), pair("z", one(4))}
	sorted := []api.Pair{pair("a", one(1)), pair("b", one(2)), pair("c", one(3))}
	was := dump(l) + dump(m) + dump(sorted)
	list := tree.List(l[:2]...)
	made := tree.Map(m[:3]...)
	short := rawMap(sorted[:2]...)
	for _, key := range []string{"0", "a", "b", "bb", "z"} {
		sample.Spoil(tree.Put(short, key, one(9)))
		sample.Spoil(tree.Drop(short, key))
	}
	sample.Spoil(list)
	sample.Spoil(made)
	if now := dump(l) + dump(m) + dump(sorted); now != was {
		t.Errorf("was %s, is %s", was, now)
	}
}

func TestWhatIsHandedInIsNotKept(t *testing.T) {
	inner := []api.Value{one(1)}
	v := rawMap(pair("a", api.Value{Kind: api.List, List: inner}))
	answers := calls(v, v, "a")
	was := dump(answers)
	inner[0] = one(5)
	v.Map[0].Key = "other"
	if now := dump(answers); now != was {
		t.Errorf("was %s, is %s", was, now)
	}
}
