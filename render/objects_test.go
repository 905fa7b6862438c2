package render_test

import (
	"strconv"
	"strings"
	"testing"

	"mizzen/api"
	"mizzen/object"
	"mizzen/tree"
)

func TestObjects(t *testing.T) {
	both := plain(t, "Service", "a", "Deployment", "b")
	read(t, doc("Service", "a"), both[0])
	read(t, doc("Service", "a")+"---\n"+doc("Deployment", "b"), both...)
	read(t, doc("Deployment", "b")+"---\n"+doc("Service", "a"), both[1], both[0])
	read(t, "# why\n---\n\n---  \n"+doc("Service", "a")+"---\n---\n# no\n---\n"+doc("Deployment", "b")+"\n---", both...)
	read(t, "{kind: Service, metadata: {name: a}}\n---\n{metadata: {\"name\": 'b'}, kind: \"Deployment\"}", both...)
	read(t, "kind: Service #x\nmetadata:\n  name: a\n--- \nkind: Deployment\nmetadata:\n   name:   b", both...)
}

func TestObjectsWithAllThatTheyHave(t *testing.T) {
	read(t, "kind: Job\nmetadata: {name: a, namespace: s, hook: pre}\nspec:\n  - 1\n  - {b: [~, true, \"x\"]}\n",
		api.Object{ID: api.ID{Kind: "Job", Space: "s", Name: "a"}, Body: of("kind", str("Job"), "metadata", of("hook", str("pre"), "name", str("a"), "namespace", str("s")), "spec", tree.List(num(1), of("b", tree.List(tree.Null(), tree.Bool(true), str("x")))))})
}

func TestDocumentsThatAreNothingArePassedOver(t *testing.T) {
	for _, nothing := range []string{"", "\n", "# why", "  # why\n\n \n", "~", "null", "null # why\n", "   ~"} {
		read(t, nothing)
		read(t, nothing+"\n---\n"+nothing+"\n---\n"+nothing)
		read(t, nothing+"\n---\n"+doc("Job", "a")+"---\n"+nothing, plain(t, "Job", "a")...)
		read(t, doc("Job", "a")+"---\n"+nothing+"\n---\n"+doc("Role", "b"), plain(t, "Job", "a", "Role", "b")...)
	}
}

func TestEmptyValuesAreNotNothing(t *testing.T) {
	for _, s := range []string{"{}", "[]", `""`, "''", "false", "0", "'~'"} {
		unread(t, s, api.ErrIdent)
		unread(t, doc("Job", "a")+"---\n"+s, api.ErrIdent)
		unread(t, "---\n"+s+"\n---\n", api.ErrIdent)
	}
}

func TestObjectsThatAreThereTwice(t *testing.T) {
	l := plain(t, "Job", "b", "Job", "a", "Job", "b", "Job", "b")
	read(t, doc("Job", "b")+"---\n"+doc("Job", "a")+"---\n"+doc("Job", "b")+"---\n"+doc("Job", "b"), l...)
}

func TestWrongDocuments(t *testing.T) {
	for s, want := range map[string]api.Errno{
		"\tkind: Job":                     api.ErrIndent,
		"a: 1\n  b: 2":                    api.ErrIndent,
		"a: 1\na: 2":                      api.ErrTwice,
		`a: "`:                            api.ErrQuote,
		"a: 9223372036854775808":          api.ErrOver,
		"[":                               api.ErrForm,
		"a: 1\nb":                         api.ErrForm,
		"a":                               api.ErrIdent,
		"kind: Job":                       api.ErrIdent,
		"metadata: {name: a}":             api.ErrIdent,
		doc("Release", "web.v1"):          api.ErrIdent,
		doc("Job", "7"):                   api.ErrIdent,
		doc("Job", "a/b"):                 api.ErrIdent,
		doc("true", "a"):                  api.ErrIdent,
		"- " + doc("Job", "a"):            api.ErrForm,
		"-\n  kind: Job":                  api.ErrIdent,
		doc("Job", "a") + doc("Job", "b"): api.ErrTwice,
		doc("Job", xs(65)):                api.ErrIdent,
		"{kind: Job, metadata: {name: a, namespace: ~}}":                           api.ErrIdent,
		strings.Repeat("[", api.MaxDepth+1) + strings.Repeat("]", api.MaxDepth+1):  api.ErrDeep,
		"a: [" + strings.TrimSuffix(strings.Repeat("~,", api.MaxNodes), ",") + "]": api.ErrSize,
		"#" + xs(api.MaxText): api.ErrSize,
	} {
		unread(t, s, want)
		unread(t, "---\n"+doc("Job", "x")+"---\n"+s, want)
		unread(t, s+"\n---\n"+doc("Job", "x"), want)
	}
}

func TestTheFirstWrongDocumentIsTold(t *testing.T) {
	unread(t, "a\n---\n[", api.ErrIdent)
	unread(t, "[\n---\na", api.ErrForm)
	unread(t, doc("Job", "a")+"---\na: '\n---\n\tb", api.ErrQuote)
	unread(t, doc("Job", "a")+"---\n\tb\n---\na: '", api.ErrIndent)
	unread(t, "#"+xs(api.MaxText)+"\n---\na", api.ErrSize)
	unread(t, "a\n---\n#"+xs(api.MaxText), api.ErrIdent)
}

// Each document has as many bytes as a text may have, however many there are.
func TestDocumentsOf65536Bytes(t *testing.T) {
	s := doc("Job", "a") + "#"
	most := s + xs(api.MaxText-len(s))
	read(t, most, plain(t, "Job", "a")...)
	read(t, most+"\n---\n"+most+"\n---\n"+most, plain(t, "Job", "a", "Job", "a", "Job", "a")...)
	unread(t, most+"x", api.ErrSize)
	unread(t, most+"\n---\n"+most+"x", api.ErrSize)
	unread(t, most+"\n\n---\n"+most, api.ErrSize)
}

func TestNamesOf64Bytes(t *testing.T) {
	read(t, doc("Job", xs(64)), plain(t, "Job", xs(64))...)
	read(t, doc(xs(64), "a"), plain(t, xs(64), "a")...)
	unread(t, doc("Job", xs(65)), api.ErrIdent)
	unread(t, doc(xs(65), "a"), api.ErrIdent)
}

// nested is a document that is an object, with a number so deep in it that it has that depth.
func nested(depth int) string {
	return doc("Job", "a") + "spec: " + strings.Repeat("[", depth-2) + "1" + strings.Repeat("]", depth-2)
}

func TestDocumentsOfDepth16(t *testing.T) {
	read(t, nested(api.MaxDepth), obj(t, "Job", "a", nested(api.MaxDepth)))
	unread(t, nested(api.MaxDepth+1), api.ErrDeep)
}

func TestMoreThan64ObjectsAreRead(t *testing.T) {
	var docs, want []string
	for i := range 1000 {
		docs = append(docs, doc("Job", "j"+strconv.Itoa(i)))
		want = append(want, "Job", "j"+strconv.Itoa(i))
	}
	read(t, strings.Join(docs, "---\n"), plain(t, want...)...)
}

func TestDashesThatAreNoLine(t *testing.T) {
	a := doc("Job", "a")
	unread(t, a+"----\n"+doc("Job", "b"), api.ErrForm)
	unread(t, a+" ---\n"+doc("Job", "b"), api.ErrIndent)
	unread(t, a+"--- #\n"+doc("Job", "b"), api.ErrForm)
	read(t, a+"---: 1", obj(t, "Job", "a", a+"'---': 1"))
}

func TestEachDocumentIsReadByItself(t *testing.T) {
	for _, kind := range []string{"Service", "Deployment", "x", "Namespace"} {
		for _, name := range []string{"a", "a.b-c", "_", "a b"} {
			s := doc(kind, name)
			o, e := object.Of(written(t, s))
			if e == api.OK {
				read(t, s+"---\n"+s, o, o)
			} else {
				unread(t, s+"---\n"+s, e)
			}
		}
	}
}
