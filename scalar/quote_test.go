package scalar_test

import (
	"strings"
	"testing"

	"mizzen/api"
	"mizzen/sample"
	"mizzen/scalar"
)

func TestQuote(t *testing.T) {
	for _, c := range []struct{ s, quoted string }{
		{``, `""`},
		{`a`, `"a"`},
		{`a b`, `"a b"`},
		{"a\nb", `"a\nb"`},
		{"a\tb", `"a\tb"`},
		{`say "x"`, `"say \"x\""`},
		{`a\b`, `"a\\b"`},
		{`\n`, `"\\n"`},
		{`it's`, `"it's"`},
		{"\n\n\t\\\"", `"\n\n\t\\\""`},
		{"é\xff\x00\r\x7f", "\"é\xff\x00\r\x7f\""},
		{"\\", `"\\"`},
		{`"`, `"\""`},
	} {
		if got := scalar.Quote(c.s); got != c.quoted {
			t.Errorf("Quote(%q) = %s, want %s", c.s, got, c.quoted)
		}
	}
}

func TestQuoteByteByByte(t *testing.T) {
	named := map[string]string{"\n": `\n`, "\t": `\t`, `"`: `\"`, `\`: `\\`}
	for c := range 256 {
		s := string([]byte{byte(c)})
		inside, ok := named[s]
		if !ok {
			inside = s
		}
		if got := scalar.Quote("a" + s + "b"); got != `"a`+inside+`b"` {
			t.Errorf("Quote with byte %d: %s", c, got)
		}
		text, rest, e := scalar.Unquote(`"a` + inside + `b"c`)
		if text != "a"+s+"b" || rest != "c" || e != api.OK {
			t.Errorf("Unquote with byte %d: %q, %q, %d", c, text, rest, e)
		}
	}
}

func TestUnquote(t *testing.T) {
	for _, c := range []struct{ s, text, rest string }{
		{`""`, "", ""},
		{`''`, "", ""},
		{`"a"`, "a", ""},
		{`'a'`, "a", ""},
		{`"a" # b`, "a", " # b"},
		{`'a' # b`, "a", " # b"},
		{`"a""b"`, "a", `"b"`},
		{`"a"'b'`, "a", `'b'`},
		{`'a'"b"`, "a", `"b"`},
		{`"a"\`, "a", `\`},
		{`"it's"`, "it's", ""},
		{`'it''s'`, "it's", ""},
		{`''''`, "'", ""},
		{`''''''x`, "''", "x"},
		{`'''a'`, "'a", ""},
		{`'a'''`, "a'", ""},
		{`'say "x"'`, `say "x"`, ""},
		{`'a\n\x\'`, `a\n\x\`, ""},
		{`"\n\t\"\\"`, "\n\t\"\\", ""},
		{`"\\n"`, `\n`, ""},
		{`"\\"n"`, `\`, `n"`},
		{"'a\n\tb'", "a\n\tb", ""},
		{"\"a\"\n\t", "a", "\n\t"},
		{"\"é\xff\x00\r\"\xff", "é\xff\x00\r", "\xff"},
		{"'é\xff\x00\r'\xff", "é\xff\x00\r", "\xff"},
	} {
		text, rest, e := scalar.Unquote(c.s)
		if text != c.text || rest != c.rest || e != api.OK {
			t.Errorf("Unquote(%q) = %q, %q, %d", c.s, text, rest, e)
		}
	}
}

// wantNoQuotes tells, if a text is read as one in quotes.
func wantNoQuotes(t *testing.T, s string) {
	t.Helper()
	if text, rest, e := scalar.Unquote(s); text != "" || rest != "" || e != api.ErrQuote {
		t.Errorf("Unquote(%q) = %q, %q, %d", s, text, rest, e)
	}
}

func TestUnquoteOfNoQuotes(t *testing.T) {
	for _, s := range []string{
		``, `a`, ` "a"`, `a"b"`, `\"a"`, "`a`",
		`"`, `"a`, `"a'`, `"a\"`, `"\`, `"\\\"`,
		`'`, `'a`, `'a"`, `'''`, `'a''`, `'a''b`, `'''''`,
		`"\x"`, `"a\'b"`, `"\N"`, `"\r"`, `"\0"`, `"\ "`, "\"\\\n\"", "\"\\\t\"", "\"\\\xff\"",
		"\"a\nb\"", "\"a\tb\"", "\"\n", "\"\t\"",
	} {
		wantNoQuotes(t, s)
	}
	for c := range 256 {
		if strings.IndexByte(`nt"\`, byte(c)) < 0 {
			wantNoQuotes(t, `"`+`a\`+string([]byte{byte(c)})+`"`)
		}
		if c != '"' && c != '\'' {
			wantNoQuotes(t, string([]byte{byte(c)})+`"a"'b'`)
		}
	}
}

func TestWhatIsQuotedIsReadAsItWas(t *testing.T) {
	letters := "an\"'\\\n\t"
	for _, s := range sample.Texts(5, letters) {
		for _, rest := range []string{"", "x", `"`, `'`, `\`, "\n", ` "x"`} {
			text, behind, e := scalar.Unquote(scalar.Quote(s) + rest)
			if text != s || behind != rest || e != api.OK {
				t.Fatalf("%q with %q behind: %q, %q, %d", s, rest, text, behind, e)
			}
		}
	}
	for _, s := range sample.Texts(4, letters) {
		single := "'" + strings.ReplaceAll(s, "'", "''") + "'"
		for _, rest := range []string{"", "x", `"`, `\`, "\n", ` 'x'`} {
			text, behind, e := scalar.Unquote(single + rest)
			if text != s || behind != rest || e != api.OK {
				t.Fatalf("%q in single quotes with %q behind: %q, %q, %d", s, rest, text, behind, e)
			}
		}
	}
}

// Each text in double quotes is written in one way, so a text has at most one of them at its beginning.
func TestUnquoteReadsWhatQuoteWritesAlone(t *testing.T) {
	letters := "n\"'\\\n"
	quotes := map[string]string{}
	for _, s := range sample.Texts(4, letters) {
		quotes[scalar.Quote(s)] = s
	}
	for _, s := range sample.Texts(5, letters) {
		s = `"` + s
		var found string
		for i := range len(s) + 1 {
			if _, ok := quotes[s[:i]]; ok {
				found = s[:i]
			}
		}
		if found == "" {
			wantNoQuotes(t, s)
			continue
		}
		text, rest, e := scalar.Unquote(s)
		if text != quotes[found] || rest != s[len(found):] || e != api.OK {
			t.Errorf("Unquote(%q) = %q, %q, %d", s, text, rest, e)
		}
	}
}

func TestLongTextsAreQuoted(t *testing.T) {
	for _, part := range []string{"x", "\n", `"`, "'", `\`} {
		s := strings.Repeat(part, 1<<20)
		if text, rest, e := scalar.Unquote(scalar.Quote(s) + "rest"); text != s || rest != "rest" || e != api.OK {
			t.Errorf("a long text of %q: %d", part, e)
		}
	}
	wantNoQuotes(t, `"`+strings.Repeat("x", 1<<20))
	wantNoQuotes(t, strings.Repeat("'", 1<<20+1))
}
