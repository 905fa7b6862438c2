package object_test

import (
	"regexp"
	"strings"
	"testing"

	"mizzen/api"
	"mizzen/object"
	"mizzen/sample"
)

func ranked() []string {
	return []string{"Namespace", "Secret", "ConfigMap", "Volume", "Account", "Role", "Service", "Deployment", "Job", "Ingress"}
}

func TestRank(t *testing.T) {
	for place, kind := range ranked() {
		if got := object.Rank(kind); got != place {
			t.Errorf("Rank(%q) = %d, want %d", kind, got, place)
		}
		for _, other := range []string{strings.ToLower(kind), strings.ToUpper(kind), kind + "s", kind[1:], kind[:len(kind)-1], " " + kind, kind + " ", kind + "\x00", kind + "/"} {
			if got := object.Rank(other); got != 10 {
				t.Errorf("Rank(%q) = %d", other, got)
			}
		}
	}
	for _, kind := range []string{"", "Release", "Pod", "A", "z", "0", "\xff", "default", xs(1 << 20)} {
		if got := object.Rank(kind); got != 10 {
			t.Errorf("Rank(%.20q) = %d", kind, got)
		}
	}
}

func TestNamesOfTheChapter(t *testing.T) {
	if object.Space != "default" || object.Hidden != "Release" {
		t.Errorf("%q, %q", object.Space, object.Hidden)
	}
}

// word says whether a text may be one of an ID's words, by a pattern.
func word() func(string) bool {
	shape := regexp.MustCompile(`^[A-Za-z][A-Za-z0-9_.-]{0,63}$`)
	return func(s string) bool {
		return shape.MatchString(s) && s[len(s)-1] != '\n' && s != "null" && s != "true" && s != "false"
	}
}

// somewhere are the IDs that have a text in one place, and good words in the others.
func somewhere(s string) []api.ID {
	return []api.ID{id(s, "b", "c"), id("a", s, "c"), id("a", "b", s)}
}

// right tells, if an ID may be, or may not be, as it should not, or should; and if its text is read otherwise.
func right(t *testing.T, x api.ID, want bool) {
	t.Helper()
	if got := object.Right(x); got != want {
		t.Errorf("Right(%.200q) = %v", x, got)
	}
	s := object.Key(x)
	if !want {
		unread(t, s)
		return
	}
	if got, e := object.Parse(s); got != x || e != api.OK {
		t.Errorf("Parse(%.200q) = %v, %d", s, got, e)
	}
}

func TestRight(t *testing.T) {
	for s, want := range map[string]bool{
		"a": true, "Z": true, "Service": true, "Release": true, "default": true, "web.v3": true, "a-b_c.d9": true, "a.": true, "a-": true, "a_": true, "Null": true, "True": true, "FALSE": true, "nulls": true, "truefalse": true,
		"": false, "1": false, "1a": false, "-a": false, "_a": false, ".": false, "..": false, ".a": false, "null": false, "true": false, "false": false, "~": false,
		"/": false, "a/": false, "/a": false, "a/b": false, "a//b": false, " a": false, "a ": false, "a b": false, "a\n": false, "a\tb": false, "a\x00": false, "a:b": false, "a,": false, "[": false, "{}": false, `"a"`: false, "'a'": false, `a\b`: false, "é": false, "aé": false, "a\xff": false, "a\x7f": false,
	} {
		for _, x := range somewhere(s) {
			right(t, x, want)
		}
	}
	right(t, id("Service", "default", "a"), true)
	right(t, id("a", "a", "a"), true)
	right(t, api.ID{}, false)
	right(t, id("a/b", "", "c"), false)
	right(t, id("", "a/b", "c"), false)
}

func TestWordsOf64Bytes(t *testing.T) {
	for _, part := range []string{"x", "a-", "Z.9_"} {
		long := strings.Repeat(part, 65)
		most := long[:64]
		for _, x := range somewhere(most) {
			right(t, x, true)
		}
		right(t, id(most, most, most), true)
		for _, x := range somewhere(long[:65]) {
			right(t, x, false)
		}
	}
	for _, n := range []int{66, 256, 257, 65536, 1 << 20} {
		for _, x := range somewhere(xs(n)) {
			right(t, x, false)
		}
	}
}

func TestAnyWords(t *testing.T) {
	may := word()
	l := sample.Texts(4, "aZ_/.-1 \n")
	for b := range 256 {
		c := string([]byte{byte(b)})
		l = append(l, c, "a"+c, "a"+c+"a", c+"a")
	}
	for _, s := range l {
		for _, x := range somewhere(s) {
			right(t, x, may(s))
		}
	}
}

func TestKey(t *testing.T) {
	for _, c := range []struct {
		id   api.ID
		want string
	}{
		{id("Service", "default", "a"), "Service/default/a"},
		{id("Release", "default", "web.v3"), "Release/default/web.v3"},
		{id("a", "b", "c"), "a/b/c"},
		{id("c", "b", "a"), "c/b/a"},
		{id("", "", ""), "//"},
		{id("a", "", ""), "a//"},
		{id("", "b", ""), "/b/"},
		{id("", "", "c"), "//c"},
		{id("a/b", "c", "d"), "a/b/c/d"},
		{id("\x00", " ", "\xff"), "\x00/ /\xff"},
		{id(xs(70), "b", "c"), xs(70) + "/b/c"},
	} {
		if got := object.Key(c.id); got != c.want {
			t.Errorf("Key(%q) = %q, want %q", c.id, got, c.want)
		}
	}
}

func TestParse(t *testing.T) {
	for s, want := range map[string]api.ID{
		"Service/default/a":      id("Service", "default", "a"),
		"Release/default/web.v3": id("Release", "default", "web.v3"),
		"a/b/c":                  id("a", "b", "c"),
		"A/default/Release":      id("A", "default", "Release"),
	} {
		if got, e := object.Parse(s); got != want || e != api.OK {
			t.Errorf("Parse(%q) = %q, %d", s, got, e)
		}
	}
	for _, s := range []string{
		"", "/", "//", "///", "a", "a/", "a/b", "a/b/", "/b/c", "a//c", "//c", "a/b/c/", "/a/b/c", "a/b/c/d", "a/b//c", "a/b/c//", "a/b/c/d/e",
		" a/b/c", "a/b/c ", "a /b/c", "a/ b/c", "a/b/c\n", "\na/b/c", "a b c", `a\b\c`, `"a/b/c"`, "'a'/b/c", "a.b.c", "1/b/c", "a/2/c", "a/b/3", "null/b/c", "a/true/c", "a/b/false", "a/~/c", "a/b/\xff",
		xs(65) + "/b/c", "a/" + xs(65) + "/c", "a/b/" + xs(65), xs(1 << 20), strings.Repeat("/", 1<<20), strings.Repeat("a/", 1<<20), "a/b/c" + strings.Repeat("/", 1<<20),
	} {
		unread(t, s)
	}
}

func TestAnyTextsAreParsed(t *testing.T) {
	may := word()
	for _, s := range sample.Texts(7, "a/1 ") {
		l := strings.Split(s, "/")
		if len(l) != 3 || !may(l[0]) || !may(l[1]) || !may(l[2]) {
			unread(t, s)
			continue
		}
		if got, e := object.Parse(s); got != id(l[0], l[1], l[2]) || e != api.OK || object.Key(got) != s || !object.Right(got) {
			t.Errorf("Parse(%q) = %q, %d", s, got, e)
		}
	}
}

// Whatever words IDs have, their texts are read as they were, and no two have one text.
func TestATextOfAnIDIsReadAsItWas(t *testing.T) {
	words := []string{"a", "A", "b", "a-", "a.a", "a_a", "default", "Release", "Service", "null.", "true-", xs(63), xs(64)}
	seen := map[string]int{}
	for _, kind := range words {
		for _, space := range words {
			for _, name := range words {
				x := id(kind, space, name)
				right(t, x, true)
				seen[object.Key(x)]++
			}
		}
	}
	if len(seen) != len(words)*len(words)*len(words) {
		t.Errorf("%d texts", len(seen))
	}
}
