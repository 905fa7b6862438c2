package render_test

import (
	"testing"

	"mizzen/api"
	"mizzen/object"
	"mizzen/render"
	"mizzen/tree"
)

// lays tells, if objects aren't written so.
func lays(t *testing.T, want string, l ...api.Object) {
	t.Helper()
	if s := render.Text(l); s != want {
		t.Errorf("Text(%.300s) = %q, want %q", told(l), s, want)
	}
}

func TestText(t *testing.T) {
	const service = "kind: Service\nmetadata:\n  name: a\n"
	const job = "kind: Job\nmetadata:\n  name: b\n"
	l := plain(t, "Service", "a", "Job", "b")
	lays(t, "")
	lays(t, service, l[0])
	lays(t, service+"---\n"+job, l...)
	lays(t, job+"---\n"+service, l[1], l[0])
	lays(t, job+"---\n"+service+"---\n"+job+"---\n"+job, l[1], l[0], l[1], l[1])
	lays(t, "kind: Job\nmetadata:\n  name: a\n  namespace: s\nspec:\n  -\n    - 1\n  -\n    x: []\n", obj(t, "Job", "a", "{spec: [[1], {x: []}], metadata: {namespace: s, name: a}, kind: Job}"))
}

// The bodies alone are written, whatever the IDs are.
func TestTextOfOtherBodies(t *testing.T) {
	lays(t, "null\n", api.Object{})
	lays(t, "null\n---\n7\n---\na: 1\n", api.Object{}, api.Object{ID: api.ID{Kind: "Job"}, Body: num(7)}, api.Object{Body: of("a", num(1))})
	lays(t, "{}\n---\n[]\n", api.Object{Body: of()}, api.Object{Body: tree.List()})
}

func TestSplit(t *testing.T) {
	l := plain(t, "Service", "a", "Job", "b")
	pre, post, other := hooked(t, "pre", "pre"), hooked(t, "post", "post"), hooked(t, "second", "pre")
	all := []api.Object{post, l[1], pre, l[0], other}
	splits(t, all, "pre", []api.Object{pre, other}, []api.Object{l[1], l[0]})
	splits(t, all, "post", []api.Object{post}, []api.Object{l[1], l[0]})
	splits(t, all, "Pre", nil, []api.Object{l[1], l[0]})
	splits(t, all, "pr", nil, []api.Object{l[1], l[0]})
	splits(t, all, "", nil, []api.Object{l[1], l[0]})
	splits(t, l, "pre", nil, l)
	splits(t, l, "", nil, l)
	splits(t, []api.Object{pre}, "pre", []api.Object{pre}, nil)
	splits(t, []api.Object{pre}, "", nil, nil)
	splits(t, nil, "pre", nil, nil)
	splits(t, []api.Object{}, "", nil, nil)
}

func TestHooksThatAreNone(t *testing.T) {
	for _, hook := range []string{"~", "7", "true", `""`, "[pre]", "{pre: pre}"} {
		o := hooked(t, "a", hook)
		splits(t, []api.Object{o}, "pre", nil, []api.Object{o})
		splits(t, []api.Object{o}, "", nil, []api.Object{o})
	}
	apart := obj(t, "Job", "a", doc("Job", "a")+"hook: pre\nspec: {hook: pre, metadata: {hook: pre}}")
	splits(t, []api.Object{apart}, "pre", nil, []api.Object{apart})
	for _, hook := range []string{"7", " ", "\n", "pre,post", "null"} {
		o := hooked(t, "a", "x")
		o.Body = of("metadata", of("hook", str(hook)))
		splits(t, []api.Object{o}, hook, []api.Object{o}, nil)
		splits(t, []api.Object{o}, "pre", nil, nil)
	}
}

// IDs are of no account: those that are there twice stay, and so does the order.
func TestSplitOfObjectsThatAreThereTwice(t *testing.T) {
	a, b := hooked(t, "a", "pre"), hooked(t, "a", "pre")
	b.Body = of("metadata", of("hook", str("pre"), "second", num(1)))
	x, y := plain(t, "Job", "a")[0], plain(t, "Job", "a")[0]
	y.Body = of("second", num(1))
	splits(t, []api.Object{x, a, y, b}, "pre", []api.Object{a, b}, []api.Object{x, y})
	splits(t, []api.Object{b, y, a, x, a}, "pre", []api.Object{b, a, a}, []api.Object{y, x})
}

func TestHooksAndTheRestAreAllOfTheObjects(t *testing.T) {
	var all []api.Object
	for _, s := range []string{"a", "b", "c", ""} {
		for _, name := range []string{"x", "y", "z"} {
			all = append(all, obj(t, "Job", name+s, "{kind: Job, metadata: {name: "+name+s+", hook: '"+s+"'}}"))
		}
	}
	var found []api.Object
	for _, when := range []string{"", "a", "b", "c"} {
		hooks, rest := render.Split(all, when)
		found = append(found, hooks...)
		same(t, "no hooks", rest, all[9:])
	}
	same(t, "hooks", found, all[:9])
	sorted, e := object.Sort(append(found, all[9:]...))
	if e != api.OK || len(sorted) != len(all) {
		t.Errorf("%d objects, %d", len(sorted), e)
	}
}
