package object_test

import (
	"testing"

	"mizzen/api"
	"mizzen/object"
	"mizzen/sample"
	"mizzen/tree"
)

func TestOf(t *testing.T) {
	for s, want := range map[string]api.ID{
		"kind: Service\nmetadata:\n  name: a":                                                id("Service", "default", "a"),
		"kind: Service\nmetadata: {name: a, namespace: b}":                                   id("Service", "b", "a"),
		"kind: a\nmetadata: {name: a, namespace: default}":                                   id("a", "default", "a"),
		"kind: Namespace\nmetadata: {name: b}":                                               id("Namespace", "default", "b"),
		"kind: Job\nmetadata: {name: Release, namespace: Release}":                           id("Job", "Release", "Release"),
		"kind: release\nmetadata: {name: a}":                                                 id("release", "default", "a"),
		"kind: Releases\nmetadata: {name: a}":                                                id("Releases", "default", "a"),
		"kind: \"Job\"\nmetadata: {name: 'a.b-c_d'}":                                         id("Job", "default", "a.b-c_d"),
		"kind: Job\nname: 1\nnamespace: 2\nmetadata: {name: a, kind: 3}":                     id("Job", "default", "a"),
		"kind: Job\nspec: {a: [1, {b: null}], e: []}\nmetadata: {name: a, hook: pre, x: {}}": id("Job", "default", "a"),
	} {
		is(t, written(t, s), want)
	}
}

func TestOfWhatIsNoObject(t *testing.T) {
	for _, s := range []string{
		"", "1", "Service", "[]", "{}", "a: 1", "kind: Service", "metadata: {name: a}", "- kind: Service\n- metadata: {name: a}",
		"kind: Release\nmetadata: {name: a}", "kind: Release\nmetadata: {name: web.v1, namespace: default}",
		"kind:\nmetadata: {name: a}", "kind: 1\nmetadata: {name: a}", "kind: true\nmetadata: {name: a}", "kind: [Service]\nmetadata: {name: a}", "kind: {kind: Service}\nmetadata: {name: a}", "kind: \"\"\nmetadata: {name: a}",
		"Kind: Service\nmetadata: {name: a}", "kinds: Service\nmetadata: {name: a}", "kind: Service\nMetadata: {name: a}",
		"kind: Service\nmetadata:", "kind: Service\nmetadata: a", "kind: Service\nmetadata: [a]", "kind: Service\nmetadata: [{name: a}]", "kind: Service\nmetadata: {}", "kind: Service\nname: a", "kind: Service\nmetadata: {metadata: {name: a}}",
		"kind: Service\nmetadata: {name: null}", "kind: Service\nmetadata: {name: 1}", "kind: Service\nmetadata: {name: false}", "kind: Service\nmetadata: {name: []}", "kind: Service\nmetadata: {name: {name: a}}", "kind: Service\nmetadata: {name: \"\"}", "kind: Service\nmetadata: {Name: a}", "kind: Service\nmetadata: {namespace: a}",
		"kind: Service\nmetadata: {name: a, namespace: null}", "kind: Service\nmetadata: {name: a, namespace: ~}", "kind: Service\nmetadata: {name: a, namespace: 1}", "kind: Service\nmetadata: {name: a, namespace: []}", "kind: Service\nmetadata: {name: a, namespace: {}}", "kind: Service\nmetadata: {name: a, namespace: \"\"}", "kind: Service\nmetadata: {name: a, namespace: true}",
	} {
		none(t, written(t, s), api.ErrIdent)
	}
	for _, v := range sample.Values() {
		none(t, v, api.ErrIdent)
	}
}

func TestOfWords(t *testing.T) {
	in := func(kind, space, name string) api.Value {
		return of("kind", str(kind), "metadata", of("name", str(name), "namespace", str(space)))
	}
	for _, s := range []string{"null", "true", "false", "1", "-a", "_a", ".a", "a/b", "/", "a ", " a", "a\n", "a\tb", "a:", "~", xs(65), xs(256), xs(65536)} {
		none(t, in(s, "b", "c"), api.ErrIdent)
		none(t, in("a", s, "c"), api.ErrIdent)
		none(t, in("a", "b", s), api.ErrIdent)
	}
	for _, s := range []string{"a", "Z", "a.b-c_9", "Null", xs(64)} {
		is(t, in(s, "b", "c"), id(s, "b", "c"))
		is(t, in("a", s, "c"), id("a", s, "c"))
		is(t, in("a", "b", s), id("a", "b", s))
		is(t, doc(s, s), id(s, "default", s))
	}
}

func TestOfChecksFirst(t *testing.T) {
	wide := func(n int) api.Value { return tree.List(make([]api.Value, n)...) }
	for _, c := range []struct {
		part api.Value
		e    api.Errno
	}{
		// A document has four values beside this part, and is one around it.
		{sample.Nest(14, num(1)), api.OK},
		{sample.Nest(15, num(1)), api.ErrDeep},
		{sample.Nest(65000, num(1)), api.ErrDeep},
		{wide(4091), api.OK},
		{wide(4092), api.ErrSize},
		{str(xs(65536)), api.OK},
		{str(xs(65537)), api.ErrForm},
		{str("\x00"), api.ErrForm},
		{of(xs(256), num(1)), api.OK},
		{of(xs(257), num(1)), api.ErrKey},
		{of("", num(1)), api.ErrKey},
		{api.Value{Kind: 6}, api.ErrKind},
		{api.Value{Kind: api.Int, Str: "a"}, api.ErrKind},
		{api.Value{Kind: api.Map, Map: []api.Pair{{Key: "b"}, {Key: "a"}}}, api.ErrTwice},
	} {
		good, bad := doc("Job", "a", "x", c.part), doc("Job", "1", "x", c.part)
		if c.e == api.OK {
			is(t, good, id("Job", "default", "a"))
			none(t, bad, api.ErrIdent)
			continue
		}
		none(t, good, c.e)
		none(t, bad, c.e)
	}
}

func TestOfWhatMayNotBe(t *testing.T) {
	for _, v := range append(sample.Faulty(), sample.Nest(65000, num(1)), sample.Maps(65000, num(1))) {
		none(t, v, tree.Check(v))
		none(t, doc("Job", "a", "x", v), tree.Check(doc("Job", "a", "x", v)))
	}
	twice := api.Value{Kind: api.Map, Map: []api.Pair{{Key: "kind", Value: str("Job")}, {Key: "kind", Value: str("Role")}, {Key: "metadata", Value: of("name", str("a"))}}}
	none(t, twice, api.ErrTwice)
	none(t, of("kind", api.Value{Kind: api.Int, Str: "Job"}, "metadata", of("name", str("a"))), api.ErrKind)
}

func TestHook(t *testing.T) {
	for s, want := range map[string]string{
		"kind: Job\nmetadata: {name: a, hook: pre}":         "pre",
		"kind: Job\nmetadata: {name: a, hook: post}":        "post",
		"metadata: {hook: pre}":                             "pre",
		"metadata: {hook: \"a b\\n\"}":                      "a b\n",
		"metadata: {hook: null}":                            "",
		"metadata: {hook: \"\"}":                            "",
		"metadata: {hook: 1}":                               "",
		"metadata: {hook: true}":                            "",
		"metadata: {hook: [pre]}":                           "",
		"metadata: {hook: {hook: pre}}":                     "",
		"metadata: {name: a}":                               "",
		"metadata: {Hook: pre, hooks: pre}":                 "",
		"metadata: {}":                                      "",
		"metadata:":                                         "",
		"metadata: pre":                                     "",
		"metadata: [hook, pre]":                             "",
		"metadata: [{hook: pre}]":                           "",
		"metadata: {metadata: {hook: pre}}":                 "",
		"kind: Job\nhook: pre\nmetadata: {name: a}":         "",
		"kind: Job\nspec: {hook: pre}\nmetadata: {name: a}": "",
		"hook: pre":                                         "",
		"[]":                                                "",
		"pre":                                               "",
		"":                                                  "",
		"hook: post\nmetadata: {annotations: {}, hook: pre}": "pre",
	} {
		if got := object.Hook(obj("Job", "default", "a", written(t, s))); got != want {
			t.Errorf("Hook of %q: %q, want %q", s, got, want)
		}
	}
}

// A hook is told by the body alone, whatever ID stands beside it.
func TestHookOfAnyID(t *testing.T) {
	body := of("metadata", of("hook", str("pre")))
	for _, o := range []api.Object{{Body: body}, obj("Release", "default", "a", body), obj("", "\xff", "/", body)} {
		if got := object.Hook(o); got != "pre" {
			t.Errorf("Hook(%s) = %q", told(o), got)
		}
	}
	if got := object.Hook(api.Object{}); got != "" {
		t.Errorf("Hook of no body: %q", got)
	}
}
