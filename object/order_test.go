package object_test

import (
	"cmp"
	"math/rand/v2"
	"slices"
	"strconv"
	"testing"

	"mizzen/api"
	"mizzen/object"
	"mizzen/sample"
	"mizzen/tree"
)

// rising are IDs, each ahead of the next one.
func rising() []api.ID {
	var l []api.ID
	for _, kind := range ranked() {
		l = append(l,
			id(kind, "", ""), id(kind, "", "z"), id(kind, "A", "z"), id(kind, "a", "B"), id(kind, "a", "a"), id(kind, "a", "a-"), id(kind, "a", "a.b"), id(kind, "a", "a/b"), id(kind, "a", "aa"), id(kind, "a", "b"), id(kind, "a", "\xff"),
			id(kind, "a-", "A"), id(kind, "a.b", "A"), id(kind, "a/b", "A"), id(kind, "aa", "a"), id(kind, "b", "A"), id(kind, "\xff", ""))
	}
	for _, kind := range []string{"", "\x00", "A", "Ingres", "Ingresses", "Jobs", "Release", "ZZ", "a", "a-b", "a/b", "aa", "namespace", "\xff"} {
		l = append(l, id(kind, "a", "b"), id(kind, "a", "c"), id(kind, "b", "a"))
	}
	return l
}

func TestCompare(t *testing.T) {
	l := rising()
	for i, a := range l {
		for j, b := range l {
			if got := object.Compare(a, b); got != cmp.Compare(i, j) {
				t.Errorf("Compare(%q, %q) = %d", a, b, got)
			}
		}
	}
	if got := object.Compare(id("Service", "default", "a"), id("Deployment", "", "")); got != -1 {
		t.Errorf("a Service and a Deployment: %d", got)
	}
}

// numbered are objects of IDs, each with a body of its own.
func numbered(l []api.ID) []api.Object {
	var out []api.Object
	for i, x := range l {
		out = append(out, api.Object{ID: x, Body: of("n", num(int64(i)), "l", tree.List(num(1)))})
	}
	return out
}

// sorts tells, if objects don't come in this order.
func sorts(t *testing.T, l, want []api.Object) {
	t.Helper()
	was := told(l)
	got, e := object.Sort(l)
	if told(got) != told(want) || e != api.OK {
		t.Errorf("Sort(%.300s) = %.300s, %d, want %.300s", was, told(got), e, told(want))
	}
	if told(l) != was {
		t.Errorf("was %.300s, is %.300s", was, told(l))
	}
}

// twice tells, if objects are sorted.
func twice(t *testing.T, l ...api.Object) {
	t.Helper()
	was := told(l)
	if got, e := object.Sort(l); len(got) > 0 || e != api.ErrTwice {
		t.Errorf("Sort(%.300s) = %.300s, %d", was, told(got), e)
	}
	if told(l) != was {
		t.Errorf("was %.300s, is %.300s", was, told(l))
	}
}

func TestSort(t *testing.T) {
	sorts(t, nil, nil)
	sorts(t, []api.Object{}, nil)
	a, b, c := obj("Service", "default", "a", num(1)), obj("Deployment", "default", "a", num(2)), obj("Pod", "b", "a", num(3))
	sorts(t, []api.Object{b}, []api.Object{b})
	sorts(t, []api.Object{b, a}, []api.Object{a, b})
	sorts(t, []api.Object{c, b, a}, []api.Object{a, b, c})
	sorts(t, []api.Object{a, c, b}, []api.Object{a, b, c})
	sorts(t, []api.Object{{Body: num(1)}, c}, []api.Object{{Body: num(1)}, c})
}

func TestSortInWhateverOrder(t *testing.T) {
	r := rand.New(rand.NewPCG(12, 1))
	all := numbered(rising())
	slices.Reverse(all)
	sorts(t, all, numbered(rising()))
	for range 300 {
		l := numbered(rising())
		r.Shuffle(len(l), func(i, j int) { l[i], l[j] = l[j], l[i] })
		l = l[:r.IntN(len(l)+1)]
		want := slices.Clone(l)
		slices.SortFunc(want, func(a, b api.Object) int { return cmp.Compare(a.Body.Map[1].Value.Int, b.Body.Map[1].Value.Int) })
		sorts(t, l, want)
	}
}

func TestSortOfManyObjects(t *testing.T) {
	var want []api.Object
	for i := range 3000 {
		want = append(want, obj("Job", "default", "a"+strconv.Itoa(10000+i), num(int64(i))))
	}
	for _, n := range []int{64, 65, 3000} {
		l := slices.Clone(want[:n])
		slices.Reverse(l)
		sorts(t, l, want[:n])
		twice(t, append(l, want[n/2])...)
	}
}

func TestSortOfOneIDTwice(t *testing.T) {
	a, b, c := obj("Service", "default", "a", num(1)), obj("Deployment", "default", "a", num(2)), obj("Pod", "b", "a", num(3))
	other := obj("Service", "default", "a", num(9))
	twice(t, a, a)
	twice(t, a, other)
	twice(t, other, a)
	twice(t, a, b, c, a)
	twice(t, b, a, other, c)
	twice(t, c, b, c)
	twice(t, a, a, a)
	twice(t, api.Object{}, api.Object{})
	all := numbered(rising())
	for i, o := range all {
		twice(t, append(all[:len(all):len(all)], api.Object{ID: o.ID})...)
		twice(t, slices.Insert(slices.Clone(all), 0, all[len(all)-1-i])...)
	}
	// What differs in one word alone is not one.
	sorts(t, []api.Object{obj("b", "b", "b", num(1)), obj("a", "b", "b", num(1)), obj("b", "a", "b", num(1)), obj("b", "b", "a", num(1))},
		[]api.Object{obj("a", "b", "b", num(1)), obj("b", "a", "b", num(1)), obj("b", "b", "a", num(1)), obj("b", "b", "b", num(1))})
}

func TestFind(t *testing.T) {
	all := numbered(rising())
	for i, o := range all {
		if got, ok := object.Find(all, o.ID); told(got) != told(all[i]) || !ok {
			t.Errorf("Find of %q: %s, %v", o.ID, told(got), ok)
		}
		rest := slices.Delete(slices.Clone(all), i, i+1)
		if got, ok := object.Find(rest, o.ID); told(got) != told(api.Object{}) || ok {
			t.Errorf("Find of %q, which isn't there: %s, %v", o.ID, told(got), ok)
		}
	}
	if got, ok := object.Find(nil, api.ID{}); told(got) != told(api.Object{}) || ok {
		t.Errorf("Find among none: %s, %v", told(got), ok)
	}
	l := []api.Object{obj("a", "b", "c", num(1)), obj("d", "b", "c", num(2)), obj("a", "b", "c", num(3)), obj("d", "b", "c", num(4))}
	for i := range 2 {
		if got, ok := object.Find(l, l[i].ID); told(got) != told(l[i]) || !ok {
			t.Errorf("Find of the first one: %s, %v", told(got), ok)
		}
	}
	for _, x := range []api.ID{id("a", "b", ""), id("a", "", "c"), id("", "b", "c"), id("a", "c", "b"), id("a/b", "", "c"), id("A", "b", "c"), {}} {
		if got, ok := object.Find(l, x); told(got) != told(api.Object{}) || ok {
			t.Errorf("Find of %q: %s, %v", x, told(got), ok)
		}
	}
}

// same tells, if two lists are one, or aren't, as they shouldn't be, or should.
func same(t *testing.T, a, b []api.Object, want bool) {
	t.Helper()
	if object.Same(a, b) != want || object.Same(b, a) != want {
		t.Errorf("Same(%.300s, %.300s): %v, and back %v", told(a), told(b), object.Same(a, b), object.Same(b, a))
	}
}

func TestSame(t *testing.T) {
	same(t, nil, nil, true)
	same(t, nil, []api.Object{}, true)
	a, b := obj("a", "b", "c", num(1)), obj("a", "b", "d", num(1))
	same(t, []api.Object{a}, nil, false)
	same(t, []api.Object{{}}, nil, false)
	same(t, []api.Object{a}, []api.Object{a}, true)
	same(t, []api.Object{a, b}, []api.Object{a, b}, true)
	same(t, []api.Object{a, b}, []api.Object{b, a}, false)
	same(t, []api.Object{a, b}, []api.Object{a}, false)
	same(t, []api.Object{a, a}, []api.Object{a}, false)
	same(t, []api.Object{a, b}, []api.Object{a, a}, false)
	same(t, []api.Object{a}, []api.Object{obj("a", "b", "c", num(2))}, false)
	same(t, []api.Object{a}, []api.Object{obj("x", "b", "c", num(1))}, false)
	same(t, []api.Object{a}, []api.Object{obj("a", "x", "c", num(1))}, false)
	same(t, []api.Object{a}, []api.Object{obj("a", "b", "x", num(1))}, false)
	same(t, []api.Object{a}, []api.Object{obj("a", "b", "c", str("1"))}, false)
	same(t, []api.Object{b, a}, []api.Object{b, obj("a", "b", "c", num(2))}, false)
	empty := api.Value{Kind: api.List, List: []api.Value{}}
	same(t, []api.Object{{Body: empty}}, []api.Object{{Body: tree.List()}}, true)
}

func TestSameOfAnyBodies(t *testing.T) {
	l := sample.Values()
	for i, x := range l {
		for _, y := range l[i/2 : i+1] {
			a, b := []api.Object{{Body: x}}, []api.Object{{Body: y}}
			if object.Same(a, b) != tree.Same(x, y) {
				t.Fatalf("Same(%s, %s): %v", told(a), told(b), object.Same(a, b))
			}
		}
	}
	all := numbered(rising())
	for i := range all {
		other := numbered(rising())
		same(t, all, other, true)
		other[i].Body = tree.Put(other[i].Body, "x", num(1))
		same(t, all, other, false)
	}
}
