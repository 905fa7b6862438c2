package object_test

import (
	"slices"
	"testing"

	"mizzen/api"
	"mizzen/object"
	"mizzen/sample"
	"mizzen/tree"
)

// strange are objects whose IDs and bodies may be, or may not.
func strange() []api.Object {
	ids := []api.ID{{}, id("Service", "default", "a"), id("Release", "default", "web.v1"), id("\xff", "\x00", "/"), id(xs(1<<16), "", "a/b")}
	bodies := slices.Concat(sample.Faulty(), sample.Plain(), sample.Values()[60:90], []api.Value{sample.Nest(65000, num(1)), sample.Maps(65000, num(1)), {Kind: 6}})
	for _, v := range sample.Faulty() {
		bodies = append(bodies, of("metadata", v), of("metadata", of("hook", v)), api.Value{Kind: api.Map, Map: []api.Pair{{Key: "metadata", Value: v}, {Key: "metadata"}, {Key: "kind", Value: v}}})
	}
	var l []api.Object
	for i, v := range bodies {
		l = append(l, api.Object{ID: ids[i%len(ids)], Body: v})
	}
	return l
}

func TestAnyObjectsAreTaken(t *testing.T) {
	l := strange()
	for i, o := range l {
		object.Hook(o)
		object.Rank(o.ID.Kind)
		object.Key(o.ID)
		if got, e := object.Of(o.Body); e != api.OK && told(got) != told(api.Object{}) {
			t.Errorf("Of: %d, and %.200s", e, told(got))
		}
		for _, other := range l[max(0, i-8):i] {
			object.Compare(o.ID, other.ID)
			object.Same([]api.Object{o}, []api.Object{other})
			object.Same([]api.Object{o, other}, []api.Object{o})
			object.Sort([]api.Object{o, other})
			object.Find([]api.Object{o, other}, other.ID)
		}
	}
	twice(t, l...)
	if got := object.Hook(api.Object{Body: of("metadata", of("hook", api.Value{Kind: api.Int, Str: "pre"}))}); got != "" {
		t.Errorf("Hook of a number that has a text: %q", got)
	}
}

func TestWhatIsHandedInIsNotChangedAndNotKept(t *testing.T) {
	body := of("kind", str("Job"), "metadata", of("name", str("a"), "l", tree.List(num(1), of("b", tree.List()))), "spec", tree.List(tree.List(num(2))))
	was := told(body)
	o, e := object.Of(body)
	if e != api.OK || told(o.Body) != was {
		t.Fatalf("Of(%s) = %s, %d", was, told(o), e)
	}
	sample.Spoil(o.Body)
	if told(body) != was {
		t.Errorf("Of: was %s, is %s", was, told(body))
	}
	o, _ = object.Of(body)
	sample.Spoil(body)
	if told(o.Body) != was {
		t.Errorf("Of: was %s, is %s", was, told(o.Body))
	}
	if !sample.Apart(o.Body) {
		t.Error("Of: one list twice")
	}
}

// listed are objects, with room behind their end.
func listed() []api.Object {
	l := []api.Object{obj("Job", "a", "b", of("l", tree.List(num(1)))), obj("Role", "a", "b", of("l", tree.List(num(2)))), obj("Account", "a", "b", of("l", tree.List(num(3)))), obj("room", "a", "b", of("l", tree.List(num(4))))}
	return l[:3]
}

// spoil overwrites objects, with the room behind their end.
func spoil(l []api.Object) {
	for _, o := range l {
		sample.Spoil(o.Body)
	}
	l = l[:cap(l)]
	for i := range l {
		l[i] = obj("spoilt", "a", "b", num(99))
	}
}

func TestListsAreNotChangedAndNotKept(t *testing.T) {
	l := listed()
	was := told(l[:4])
	sorted, e := object.Sort(l)
	want := told([]api.Object{l[2], l[1], l[0]})
	if told(sorted) != want || e != api.OK {
		t.Fatalf("Sort: %s, %d", told(sorted), e)
	}
	spoil(sorted)
	found, ok := object.Find(l, l[1].ID)
	if told(found) != told(l[1]) || !ok {
		t.Fatalf("Find: %s, %v", told(found), ok)
	}
	sample.Spoil(found.Body)
	object.Same(l, l[:2])
	object.Sort(append(l[:2:2], l[0]))
	if now := told(l[:4]); now != was {
		t.Errorf("was %s, is %s", was, now)
	}
	sorted, _ = object.Sort(l)
	found, _ = object.Find(l, l[1].ID)
	there := told(found)
	spoil(l)
	if told(sorted) != want || told(found) != there {
		t.Errorf("Sort: %s; Find: %s", told(sorted), told(found))
	}
}

// A list that is in order already, or that has one object alone, is copied as others are.
func TestSortedListsAreCopied(t *testing.T) {
	for _, l := range [][]api.Object{listed()[:1], {listed()[2], listed()[1], listed()[0]}} {
		was := told(l)
		sorted, _ := object.Sort(l)
		spoil(sorted)
		if now := told(l); now != was {
			t.Errorf("was %s, is %s", was, now)
		}
	}
	shared := of("l", tree.List(num(1)))
	l, _ := object.Sort([]api.Object{{ID: id("b", "b", "b"), Body: shared}, {ID: id("a", "b", "b"), Body: shared}})
	if !sample.Apart(api.Value{Kind: api.List, List: []api.Value{l[0].Body, l[1].Body}}) {
		t.Error("two bodies share a list")
	}
}

func TestCallsDoNotHangOnEachOther(t *testing.T) {
	for range 3 {
		is(t, doc("Job", "a"), id("Job", "default", "a"))
		none(t, doc("Release", "a"), api.ErrIdent)
		unread(t, "a/b")
		right(t, id("a", "b", "c"), true)
		sorts(t, numbered(rising()), numbered(rising()))
		twice(t, api.Object{}, api.Object{})
	}
}
