package funcs_test

import (
	"math/rand/v2"
	"slices"
	"testing"

	"mizzen/api"
	"mizzen/funcs"
	"mizzen/sample"
	"mizzen/tree"
)

// some are as many arguments, by turns that hang on nothing but the seed.
func some(r *rand.Rand, from []api.Value, n int) []api.Value {
	var l []api.Value
	for range n {
		l = append(l, from[r.IntN(len(from))])
	}
	return l
}

// clean says whether a value has only what its kind has.
func clean(v api.Value) bool {
	bare := api.Value{Kind: v.Kind}
	switch v.Kind {
	case api.Bool:
		bare.Bool = v.Bool
	case api.Int:
		bare.Int = v.Int
	case api.Str:
		bare.Str = v.Str
	case api.List:
		bare.List = v.List
	case api.Map:
		bare.Map = v.Map
	}
	return same(v, bare)
}

func TestAnyArguments(t *testing.T) {
	r := rand.New(rand.NewPCG(8, 1))
	from := slices.Concat(sample.Values()[:70], sample.Faulty(), strange(), args(num(2), num(64), str("a"), str("12")))
	for range 40000 {
		name := names()[r.IntN(len(names()))]
		l := some(r, from, r.IntN(5))
		was := dump(l...)
		v, e := funcs.Call(name, l...)
		again, too := funcs.Call(name, l...)
		if !same(v, again) || e != too || e != api.OK && !same(v, api.Value{}) {
			t.Fatalf("%s of %s = %s, %d, and again %s, %d", name, was, dump(v), e, dump(again), too)
		}
		sample.Spoil(v)
		if now := dump(l...); now != was {
			t.Fatalf("%s: was %s, is %s", name, was, now)
		}
	}
}

// Of values that may be answers are values that may be, and no texts are too long.
func TestAnswersMayBe(t *testing.T) {
	r := rand.New(rand.NewPCG(8, 2))
	from := slices.Concat(sample.Values(), args(num(2), str("a"), str("12"), xs(api.MaxText), xs(api.MaxText/2), sample.Nest(15, num(1)), tree.List(make([]api.Value, 4095)...)))
	for range 20000 {
		name := names()[r.IntN(len(names()))]
		l := some(r, from, 1+r.IntN(4))
		v, e := funcs.Call(name, l...)
		if tree.Check(v) != api.OK || !clean(v) || !slices.Contains([]api.Errno{api.OK, api.ErrCall, api.ErrKind, api.ErrArg, api.ErrOver, api.ErrSize, api.ErrDeep, api.ErrKey}, e) {
			t.Fatalf("%s of %s = %s, %d", name, dump(l...), dump(v), e)
		}
	}
}

// branched has lists and maps in one another.
func branched() api.Value {
	return of("a", list(num(1), of("b", list(num(2)))), "c", of("d", list(list(num(3)))))
}

// handing are calls whose answers have what was handed in; each is made anew.
func handing() map[string][]api.Value {
	b := branched
	return map[string][]api.Value{
		"default": args(num(1), b()), "and": args(num(1), b()), "or": args(num(0), b()), "ternary": args(b(), num(1), yes()), "required": args(str("s"), b()),
		"list": args(b(), b()), "dict": args(str("x"), b(), str("y"), b()), "get": args(b(), str("a")), "keys": args(b()),
	}
}

func TestWhatIsHandedInIsNotKept(t *testing.T) {
	for name, l := range handing() {
		v, e := funcs.Call(name, l...)
		was := dump(v)
		for _, x := range l {
			sample.Spoil(x)
		}
		if now := dump(v); now != was || e != api.OK {
			t.Errorf("%s: was %s, is %s, %d", name, was, now, e)
		}
	}
	l := list(branched(), list(num(1)))
	v, _ := funcs.Call("get", l, num(1))
	sample.Spoil(l)
	if !same(v, list(num(1))) {
		t.Errorf("get: %s", dump(v))
	}
}

func TestNoListsOfAnAnswerAreShared(t *testing.T) {
	b := branched()
	for name, l := range map[string][]api.Value{"list": args(b, b, b), "dict": args(str("x"), b, str("y"), b)} {
		if v, e := funcs.Call(name, l...); e != api.OK || !sample.Apart(v) {
			t.Errorf("%s: %d", name, e)
		}
	}
	shared := list(num(1))
	twice := api.Value{Kind: api.List, List: args(shared, shared)}
	for name, l := range map[string][]api.Value{"default": args(num(1), twice), "or": args(twice), "list": args(twice), "get": args(list(twice), num(0))} {
		if v, e := funcs.Call(name, l...); e != api.OK || !sample.Apart(v) {
			t.Errorf("%s of a list that has one twice: %d", name, e)
		}
	}
}

func TestTheRoomBehindIsLeftAsItIs(t *testing.T) {
	for _, name := range names() {
		room := args(list(num(1)), list(num(2)), num(3), str("room"), str("room"))
		was := dump(room...)
		for n := range 4 {
			funcs.Call(name, room[:n]...)
			var table funcs.Table
			table.Call(name, room[:n]...)
		}
		if now := dump(room...); now != was {
			t.Errorf("%s: was %s, is %s", name, was, now)
		}
	}
}

func TestDeepValuesAreTaken(t *testing.T) {
	deep, maps := sample.Nest(65000, num(1)), sample.Maps(65000, num(1))
	for _, name := range names() {
		for _, l := range [][]api.Value{{deep}, {deep, maps}, {str("a"), deep}, {deep, maps, yes()}, {maps, str("a")}, {num(1), maps}} {
			v, e := funcs.Call(name, l...)
			if again, too := funcs.Call(name, l...); e != too || !tree.Same(v, again) {
				t.Errorf("%s isn't the same again", name)
			}
		}
	}
	fails(t, api.ErrDeep, "list", deep)
	fails(t, api.ErrDeep, "dict", str("a"), maps)
}
