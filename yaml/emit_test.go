package yaml_test

import (
	"fmt"
	"math"
	"slices"
	"strings"
	"testing"

	"mizzen/api"
	"mizzen/sample"
	"mizzen/tree"
	"mizzen/yaml"
)

func TestEmit(t *testing.T) {
	for _, c := range []struct {
		v api.Value
		s string
	}{
		{null(), "null\n"},
		{tree.Bool(true), "true\n"},
		{tree.Bool(false), "false\n"},
		{one(-7), "-7\n"},
		{one(math.MinInt64), "-9223372036854775808\n"},
		{str("v1.2/x"), "v1.2/x\n"},
		{str(""), "\"\"\n"},
		{str("a b"), "\"a b\"\n"},
		{str("true"), "\"true\"\n"},
		{str("7"), "\"7\"\n"},
		{str("a\n\t\"\\"), `"a\n\t\"\\"` + "\n"},
		{str("it's"), "\"it's\"\n"},
		{list(), "[]\n"},
		{of(), "{}\n"},
		{list(null(), tree.Bool(false), one(1), str("a"), str("a: b"), list(), of()), "- null\n- false\n- 1\n- a\n- \"a: b\"\n- []\n- {}\n"},
		{of("b", null(), "a", one(1), "c", list(), "d", of(), "e", str("")), "a: 1\nb: null\nc: []\nd: {}\ne: \"\"\n"},
		{of("true", one(1), "a b", one(2), "1", one(3), "~", one(4), "a-b_c.d/e", one(5), "- x", one(6)),
			"\"- x\": 6\n\"1\": 3\n\"a b\": 2\na-b_c.d/e: 5\n\"true\": 1\n\"~\": 4\n"},
		{of("a", one(1), "b", list(str("x"), of("c", one(2)))), "a: 1\nb:\n  - x\n  -\n    c: 2\n"},
		{list(list(list(one(1)), one(2)), of("a", of("b", list(of())))), "-\n  -\n    - 1\n  - 2\n-\n  a:\n    b:\n      - {}\n"},
		{of("a b", of("", of("k", list(one(1)), "l", null()))), "\"a b\":\n  \"\":\n    k:\n      - 1\n    l: null\n"},
	} {
		if got := yaml.Emit(c.v); got != c.s {
			t.Errorf("Emit(%v) = %q, want %q", c.v, got, c.s)
		}
	}
}

func TestEmitOfStrangeTexts(t *testing.T) {
	for c := range 256 {
		s := "a" + string([]byte{byte(c)}) + "b"
		if named, ok := map[byte]string{'\n': `\n`, '\t': `\t`, '"': `\"`, '\\': `\\`}[byte(c)]; ok {
			s = "a" + named + "b"
		}
		v := str("a" + string([]byte{byte(c)}) + "b")
		bare := c >= '0' && c <= '9' || c >= 'A' && c <= 'Z' || c >= 'a' && c <= 'z' || strings.IndexByte("_-./", byte(c)) >= 0
		if !bare {
			s = `"` + s + `"`
		}
		if got := yaml.Emit(v); got != s+"\n" {
			t.Errorf("Emit of byte %d: %q", c, got)
		}
		if got := yaml.Emit(of(v.Str, list(v))); got != s+":\n  - "+s+"\n" {
			t.Errorf("Emit of byte %d in a key: %q", c, got)
		}
	}
}

func TestEmitOfDeepValues(t *testing.T) {
	var wanted strings.Builder
	for i := range 5000 {
		wanted.WriteString(strings.Repeat(" ", 2*i) + "a:")
		if i < 4999 {
			wanted.WriteString("\n")
		}
	}
	wanted.WriteString(" 1\n")
	if yaml.Emit(sample.Maps(5000, one(1))) != wanted.String() {
		t.Error("maps, 5000 deep")
	}
	if n := strings.Count(yaml.Emit(sample.Nest(5000, one(1))), "\n"); n != 5000 {
		t.Errorf("lists and maps, 5000 deep: %d lines", n)
	}
}

func TestAnyValuesAreWrittenAndLeftAsTheyAre(t *testing.T) {
	for _, v := range slices.Concat(sample.Faulty(), sample.Values()) {
		was := fmt.Sprintf("%+v", v)
		first, second := yaml.Emit(v), yaml.Emit(v)
		if first != second || !strings.HasSuffix(first, "\n") {
			t.Errorf("Emit(%v) = %q, and then %q", v, first, second)
		}
		if now := fmt.Sprintf("%+v", v); now != was {
			t.Errorf("was %s, is %s", was, now)
		}
	}
}

func TestDocs(t *testing.T) {
	for _, c := range []struct {
		s    string
		docs []string
	}{
		{"", []string{""}},
		{"a", []string{"a"}},
		{"a\n", []string{"a\n"}},
		{"\n\n", []string{"\n\n"}},
		{"---", []string{"", ""}},
		{"---\n", []string{"", ""}},
		{"\n---", []string{"", ""}},
		{"\n---\n", []string{"", ""}},
		{"\n\n---\n\n", []string{"\n", "\n"}},
		{"---\n---", []string{"", "", ""}},
		{"a\n---\nb", []string{"a", "b"}},
		{"a\n---\nb\n", []string{"a", "b\n"}},
		{"a: 1\nb: 2\n---  \n- x\n\n---\n---   \nc", []string{"a: 1\nb: 2", "- x\n", "", "c"}},
		{"---\na\n---", []string{"", "a", ""}},
		{" ---\n--- a\n----\n--\n--- # x\n---\t\n---\r\n\t---\n- --\n-- -", []string{" ---\n--- a\n----\n--\n--- # x\n---\t\n---\r\n\t---\n- --\n-- -"}},
		{"'\n---\n'", []string{"'", "'"}},
		{" a # x \n\t\xff\n---\n\x00", []string{" a # x \n\t\xff", "\x00"}},
	} {
		if got := yaml.Docs(c.s); !slices.Equal(got, c.docs) {
			t.Errorf("Docs(%q) = %q, want %q", c.s, got, c.docs)
		}
	}
	long := strings.Repeat("a: 1\n---\n", 100000)
	if got := yaml.Docs(long); len(got) != 100001 || strings.Join(got, "\n---\n") != long {
		t.Errorf("%d documents of a long text", len(got))
	}
}

func TestDocsOfWhatIsWritten(t *testing.T) {
	l := sample.Values()[:60]
	var texts []string
	for _, v := range append(l, str("---"), list(str("---"))) {
		texts = append(texts, yaml.Emit(v))
	}
	docs := yaml.Docs(strings.Join(texts, "---\n"))
	if len(docs) != len(texts) {
		t.Fatalf("%d documents of %d", len(docs), len(texts))
	}
	for i, v := range l {
		wantRead(t, docs[i], v)
	}
}
