package yaml_test

import (
	"strings"
	"testing"

	"mizzen/api"
	"mizzen/tree"
	"mizzen/yaml"
)

func TestTextsNotWrittenSo(t *testing.T) {
	inALine := []string{
		"[", "[a", "[a,", "[a, ", "[,", "[,]", "[a,]", "[a, ]", "[,a]", "[a,,b]", "[a , , b]", "[[a]", "[a]]", "[a] b", "[a]b", "[a] ]", "[a}", "[[a}",
		"{", "{a", "{a}", "{a,b: 1}", "{a: 1", "{a: 1,", "{a: 1,}", "{,}", "{,a: 1}", "{a: 1,,b: 2}", "{a:}", "{a: }", "{a: ,b: 1}", "{:1}", "{: 1}",
		"{a: 1}}", "{a: 1} b", "{a: 1}b", "{a]: 1}", "{a}: 1}", "{a: 1]", "{a: {b: 1}", "{a: 1 b: 2}", "{[a]: 1}", "{{a: 1}: 2}", "{a: 1, b}",
		"[a: b]", "[a:]", "[a:, b]", "[a: ]", "{a: b: c}", "{a: b:}", "{a::b}", "{a: :b}",
		`["a" b]`, `["a"b]`, `["a""b"]`, `["a"`, `['a',`, `{"a"}`, `{"a" b: 1}`, `{"a"b: 1}`, `{"a": 1`, `{"a":}`, `{"a": "b" c}`, `{"a": "b"c}`,
		"[[a] b]", "[[a]b]", "[{}{}]", "{a: []b}", "{a: [] b}", "[&a]", "[*a]", "[!a]", "{a: |}", "{a: >b}", "{&a: 1}", "{?a: 1}", "[?]", "[a, %]", "[@a]", "[`a`]", "[#a]", "[a,#b]", "{#a: 1}", "{a:#b}",
		`"a" b`, `"a"b`, `'a' 'b'`, `"a""b"`, `"a"# b`, `'a'#`, "a: b:", "a: b: c", ":", ": a", ":a", "::",
		"&a", "*a", "!a", "|", ">", "%a", "@a", "?", "? a", "`a`", ",", "]", "}", "]a", "}a", ",a",
	}
	for _, s := range inALine {
		wantWrong(t, s, api.ErrForm)
		wantWrong(t, "a: "+s, api.ErrForm)
		wantWrong(t, "a:\n  "+s, api.ErrForm)
		wantWrong(t, "- "+s, api.ErrForm)
		wantWrong(t, "-\n   "+s, api.ErrForm)
	}
	for _, s := range []string{
		"a::", "a:: b", "?a: 1", "[a]: 1", "{a: 1}: 2", `"a" : 1`, `"a":b`, `"a"b: 1`, `"a" b: 1`, `'a''b' : 1`, "a: [1,\n2]",
		"a\nb", "a\n- b", "a\nb: 1", "[a]\n[b]", "  a\nb", "  a: 1\nb: 2", " - a\n- b", "a: 1\nb", "a: 1\n- b", "a: 1\n-", "- a\nb", "- a\nb: 1", "- a\n-b",
		"a:\n- b", "a:\n-", "a:\n  b: 1\n  c", "a:\n  b: 1\n  - c", "a:\n  - b\n  c", "a:\n  - b\n  c: 1", "- a: 1\n  b", "- a: 1\n  - b", "- - a\n  b",
		"a: 1\n[b]", "a: 1\n\"b\"", "a: 1\n?", "---\na: 1", "a: 1\n---", "a: 1\n  \n# x\nb",
	} {
		wantWrong(t, s, api.ErrForm)
	}
}

func TestQuotesThatAreNone(t *testing.T) {
	for _, s := range []string{
		`"`, `"a`, `"a\"`, `'`, `'a`, `'a''`, `"a'`, `"\x"`, `"a\`, `"a # b`, `'a # b`, "\"a\tb\"", "\"\t\"",
		`["`, `["a]`, `['a, b]`, `["a", "b]`, `["\a"]`, `{"a: 1}`, `{a: "b}`, `{a: 'b}`, `{a: 1, 'b: 2}`, `{"\a": 1}`, `[{a: ["`,
	} {
		wantWrong(t, s, api.ErrQuote)
		wantWrong(t, "a: "+s, api.ErrQuote)
		wantWrong(t, "a:\n  "+s, api.ErrQuote)
		wantWrong(t, "- "+s, api.ErrQuote)
		wantWrong(t, "-\n  "+s, api.ErrQuote)
	}
	for _, s := range []string{`"a: 1`, `'a: 1`, `"a\x": 1`, "a: 1\n\"b: 2", "a: 1\n'b: 2", "a: \"x\n  y\"", "'a\n'"} {
		wantWrong(t, s, api.ErrQuote)
	}
}

func TestNumbersThatAreOver(t *testing.T) {
	for _, s := range []string{"9223372036854775808", "-9223372036854775809", "0099999999999999999999", strings.Repeat("9", 60000)} {
		for _, text := range []string{s, "a: " + s, "- " + s, "a:\n  " + s, "[" + s + "]", "{a: " + s + "}", "- a\n- [b, {c: " + s + " }]"} {
			wantWrong(t, text, api.ErrOver)
		}
	}
	wantRead(t, strings.Repeat("0", 60000)+"7", one(7))
}

func TestLinesTooFarIn(t *testing.T) {
	for _, s := range []string{
		"a\n  b", "a\n b: 1", "a: 1\n  b: 2", "a: 1\n  b", "a: 1\n  - b", "- a\n  - b", "- a\n  b", "- a\n b", "- a\n   b", "[a]\n  b", "{}\n {}",
		"a:\n    b: 1\n  c: 2", "a:\n    - b\n  - c", "a:\n    b\n  c", "a:\n  b\n  c", "a:\n  b\n    c", "-\n    a\n  b", "-\n  a\n  b",
		"-   a: 1\n  b: 2", "-   - a\n  - b", "- a: 1\n   b: 2", "- a: 1\n b: 2", "- - a\n   - b", "- - a\n - b",
		"a: 1\nb: 2\n c: 3", "  a: 1\n   b: 2", "- a\n-\n-  b\n     c", "a: \"b\"\n  c", "a: [b]\n  - c", "a: {}\n  b: 1",
	} {
		wantWrong(t, s, api.ErrIndent)
	}
}

func TestTabsBehindBlanks(t *testing.T) {
	for _, s := range []string{
		"\t", " \t", "\ta", "  \ta: 1", "a:\n\tb", "a:\n  \tb", "a: 1\n\t", "a: 1\n   \t   ", "\t# a", " \t#", "- a\n\t- b", "a\n\n\n\t\t\n",
	} {
		wantWrong(t, s, api.ErrIndent)
	}
	wantRead(t, "a: b\tc\t\n# \t\n  # \t", of("a", str("b\tc\t")))
}

func TestKeysThatAreThereTwice(t *testing.T) {
	for _, s := range []string{
		"a: 1\na: 1", "a: 1\na: 2", "a:\na:", "a: 1\nb: 2\na: 3", "a: 1\n\"a\": 2", "'a': 1\na: 2", "\"\\\"\": 1\n'\"': 2", "\"\": 1\n'': 2",
		"a:\n  b: 1\n  b: 2", "- a: 1\n  a: 2", "- b\n- a:\n    c: 1\n  a: 2", "a:\n  a: 1\n  b: 2\na: 3",
		"{a: 1, a: 2}", "{a: 1, 'a': 2}", "{a:1,b:2,\"a\":3}", "[{a: {b: 1, b: 2}}]", "{a : 1, a: 1}",
	} {
		wantWrong(t, s, api.ErrTwice)
	}
	wantRead(t, "a:\n  a:\n    a: {a: {a: 1}}", of("a", of("a", of("a", of("a", of("a", one(1)))))))
	wantRead(t, "- a: 1\n- a: 2", list(of("a", one(1)), of("a", one(2))))
	wantRead(t, "A: 1\na: 2\n'a ': 3", of("A", one(1), "a", one(2), "a ", one(3)))
}

// The first one of these that is met is told, line by line.
func TestWrongInOrder(t *testing.T) {
	for _, c := range []struct {
		what, s string
		e       api.Errno
	}{
		{"size ahead of tabs", "\t" + strings.Repeat("x", 65536), api.ErrSize},
		{"tabs ahead of all lines", "a: \"\na: 1\na: 1\n[\n\t", api.ErrIndent},
		{"tabs ahead of twice", "a: 1\na: 1\n\t", api.ErrIndent},
		{"form, then indent", "[\n  a", api.ErrForm},
		{"form, then twice", "a: [\na: 1", api.ErrForm},
		{"form, then quotes", "a: ]\nb: \"", api.ErrForm},
		{"form, then over", "a: ]\nb: 99999999999999999999", api.ErrForm},
		{"quotes, then form", "a: \"\nb: ]", api.ErrQuote},
		{"quotes, then twice", "a: \"\na: 1", api.ErrQuote},
		{"quotes, then indent", "a: \"\n  b: 1", api.ErrQuote},
		{"over, then quotes", "- 99999999999999999999\n- \"", api.ErrOver},
		{"over, then indent", "- 99999999999999999999\n  - a", api.ErrOver},
		{"indent, then over", "a: 1\n  b: 1\nc: 99999999999999999999", api.ErrIndent},
		{"indent, then quotes", "a: 1\n  b: 1\nc: \"", api.ErrIndent},
		{"twice, then quotes", "a: 1\na: 1\nb: \"", api.ErrTwice},
		{"twice, then indent", "a: 1\na: 1\n  b: 1", api.ErrTwice},
		{"twice, then what is below", "a: 1\na:\n  b: \"", api.ErrTwice},
		{"what is below, then twice", "a:\n  b: \"\na: 1", api.ErrQuote},
		{"indent ahead of what stands there", "a: 1\n  \"", api.ErrIndent},
		{"indent ahead of twice", "a: 1\n  a: 1", api.ErrIndent},
		{"indent ahead of form", "a: 1\n  ]", api.ErrIndent},
		{"twice ahead of what the second one has", "a: 1\na: \"", api.ErrTwice},
		{"twice ahead of a number that is over", "a: 1\na: 99999999999999999999", api.ErrTwice},
		{"twice ahead of no value", "a: 1\na: ]", api.ErrTwice},
		{"in braces, too", "{a: 1, a: \"}", api.ErrTwice},
		{"in braces, with what is below", "{a: 1, a: ]}", api.ErrTwice},
		{"in brackets from the left: form", "[a: b, \"]", api.ErrForm},
		{"in brackets from the left: over", "[99999999999999999999, \"]", api.ErrOver},
		{"in brackets from the left: quotes", "[\"a, 99999999999999999999]", api.ErrQuote},
		{"in braces from the left: over", "{a: 99999999999999999999, a: 1}", api.ErrOver},
		{"what is too deep is looked at last", strings.Repeat("[", 40) + "\"" + strings.Repeat("]", 40), api.ErrQuote},
		{"no key is looked at last", "\"\": 1\nb: 1\nb: 2", api.ErrTwice},
		{"no text is looked at last", "a: \x80\nb: \"", api.ErrQuote},
		{"depth ahead of texts", "a: \x80\nb: " + strings.Repeat("[", 16) + strings.Repeat("]", 16), api.ErrDeep},
	} {
		if _, e := yaml.Parse(c.s); e != c.e {
			t.Errorf("%s: %d, want %d", c.what, e, c.e)
		}
		wantWrong(t, c.s, c.e)
	}
}

func TestValuesThatMayNotBe(t *testing.T) {
	long := strings.Repeat("k", 257)
	for _, s := range []string{"\"\": 1", "'': 1", `"a\nb": 1`, `"a\tb": 1`, "'a\tb': 1", "a\tb: 1", "é: 1", "\x80: 1", long + ": 1", "'" + long + "': 1"} {
		wantWrong(t, s, api.ErrKey)
		wantWrong(t, "- a\n- "+s, api.ErrKey)
		wantWrong(t, "{b: 1, "+s+"}", api.ErrKey)
	}
	for _, s := range []string{"é", "a\x00b", "\x7f", "a\r", "'\xff'", "\"\r\"", "a b\x80"} {
		wantWrong(t, s, api.ErrForm)
		wantWrong(t, "a: "+s, api.ErrForm)
		wantWrong(t, "["+s+"]", api.ErrForm)
	}
}

func TestLimits(t *testing.T) {
	wantRead(t, strings.Repeat("\n", 65536), null())
	wantWrong(t, strings.Repeat("\n", 65537), api.ErrSize)
	wantRead(t, strings.Repeat("x", 65536), str(strings.Repeat("x", 65536)))
	wantWrong(t, strings.Repeat("x", 65537), api.ErrSize)
	wantWrong(t, strings.Repeat("#", 1<<20), api.ErrSize)

	nested := func(n int, open, inner, closed string) string {
		return strings.Repeat(open, n) + inner + strings.Repeat(closed, n)
	}
	for _, c := range []struct{ sixteen, seventeen string }{
		{nested(16, "[", "", "]"), nested(17, "[", "", "]")},
		{nested(15, "[", "x", "]"), nested(16, "[", "x", "]")},
		{nested(15, "{a: ", "1", "}"), nested(16, "{a: ", "1", "}")},
		{nested(15, "- ", "1", ""), nested(16, "- ", "1", "")},
		{nested(14, "- ", "a: 1", ""), nested(15, "- ", "a: 1", "")},
	} {
		if v, e := yaml.Parse(c.sixteen); e != api.OK || tree.Depth(v) != 16 {
			t.Errorf("%q: %d", c.sixteen, e)
		}
		wantWrong(t, c.seventeen, api.ErrDeep)
	}

	wantRead(t, strings.Repeat("-\n", 4095), list(make([]api.Value, 4095)...))
	wantWrong(t, strings.Repeat("-\n", 4096), api.ErrSize)
	wantRead(t, "["+strings.Repeat("~,", 4094)+"~]", list(make([]api.Value, 4095)...))
	wantWrong(t, "["+strings.Repeat("~,", 4095)+"~]", api.ErrSize)
}
