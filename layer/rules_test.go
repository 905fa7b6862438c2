package layer_test

import (
	"fmt"
	"slices"
	"strconv"
	"testing"

	"mizzen/api"
	"mizzen/layer"
	"mizzen/sample"
	"mizzen/tree"
)

// calls does each call with these; what is answered.
func calls(a, b api.Value) []api.Value {
	layer.Plain(a)
	return []api.Value{layer.Over(a, b), layer.All(a, b, a), layer.All(a, a, b, b), layer.Diff(a, b)}
}

func dump(l ...api.Value) string { return fmt.Sprintf("%+v", l) }

func TestAnyValuesAreTakenAndLeftAsTheyAre(t *testing.T) {
	hard := api.Value{Kind: api.Map, Map: []api.Pair{pair("b", one(1)), pair("a", tree.Null()), pair("a", one(2)), pair("", tree.Map()), pair("b", tree.Map())}}
	l := slices.Concat(sample.Faulty(), sample.Plain(), maps()[:40], []api.Value{hard, tree.Map(pair("a", hard), pair("b", hard))})
	for _, a := range l {
		for _, b := range l {
			was := dump(a, b)
			for _, got := range calls(a, b) {
				sample.Spoil(got)
			}
			if now := dump(a, b); now != was {
				t.Fatalf("was %s, is %s", was, now)
			}
		}
	}
}

// branched has maps and lists in maps, so that each call has some to take from it, to lay over it, and to leave out.
func branched(n int64) api.Value {
	m := tree.Map
	return m(
		pair("a", m(pair("b", tree.List(one(1), tree.List(one(n)))), pair("c", m(pair("x", one(n)))))),
		pair("both", tree.List(m(pair("y", one(1))))),
		pair("k"+strconv.FormatInt(n, 10), m(pair("l", tree.List(one(n))))),
		pair("z", m(pair("x", tree.List(one(1))))),
	)
}

func TestWhatIsHandedInIsNotKept(t *testing.T) {
	a, b := branched(1), branched(2)
	answers := calls(a, b)
	was := dump(answers...)
	sample.Spoil(a)
	sample.Spoil(b)
	if now := dump(answers...); now != was {
		t.Errorf("was %s, is %s", was, now)
	}
}

func TestNoListsOfAnAnswerAreShared(t *testing.T) {
	a, b := branched(1), branched(2)
	for i, got := range slices.Concat(calls(a, b), calls(a, a), calls(tree.Null(), a)) {
		if !sample.Apart(got) {
			t.Errorf("answer %d has one list twice", i)
		}
	}
	twice := tree.List(one(1))
	shared := tree.Map(pair("a", one(1)))
	shared.Map = append(shared.Map, pair("b", twice), pair("c", twice))
	for i, got := range slices.Concat(calls(shared, tree.Map(pair("d", one(1)))), calls(tree.Map(), shared)) {
		if !sample.Apart(got) {
			t.Errorf("answer %d shares what the values handed in share", i)
		}
	}
}

func TestTheRoomBehindIsLeftAsItIs(t *testing.T) {
	with := func(l []api.Pair) api.Value { return api.Value{Kind: api.Map, Map: l[:1]} }
	a := []api.Pair{pair("a", one(1)), pair("room", one(2)), pair("room", one(3))}
	b := []api.Pair{pair("b", one(4)), pair("room", one(5)), pair("room", one(6))}
	l := []api.Value{with(a), with(b), one(7)}
	was := dump(tree.Map(a...), tree.Map(b...), l[2])
	calls(with(a), with(b))
	calls(with(b), with(a))
	layer.All(l[:2]...)
	if now := dump(tree.Map(a...), tree.Map(b...), l[2]); now != was {
		t.Errorf("was %s, is %s", was, now)
	}
}

func TestDeepValuesAreTaken(t *testing.T) {
	const deep = 65535
	a, b := sample.Maps(deep, one(1)), sample.Maps(deep, one(2))
	if !tree.Same(layer.Over(a, b), b) || !tree.Same(layer.All(a, b), b) || !tree.Same(layer.Diff(a, b), b) {
		t.Error("what is laid last isn't all that stands")
	}
	if d := layer.Diff(a, a); len(d.Map) != 0 {
		t.Error("a Diff of what is the same")
	}
	if !layer.Plain(a) || layer.Plain(sample.Maps(deep, tree.Null())) {
		t.Error("Plain")
	}
	calls(sample.Nest(deep, one(1)), sample.Nest(deep, tree.Null()))
}

func TestManyLayersAreTaken(t *testing.T) {
	const many = 1000
	var l []api.Value
	for i := range many {
		key := "k" + strconv.Itoa(i*7%many)
		l = append(l, tree.Map(pair(key, tree.Map(pair("x", one(int64(i))))), pair("last", one(int64(i)))))
	}
	got := layer.All(l...)
	if last, _ := tree.Get(got, "last"); len(got.Map) != many+1 || last.Int != many-1 || tree.Check(got) != api.OK {
		t.Errorf("%d pairs, the last one of %d", len(got.Map), last.Int)
	}
}
