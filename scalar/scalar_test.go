package scalar_test

import (
	"math"
	"slices"
	"strconv"
	"strings"
	"testing"

	"mizzen/api"
	"mizzen/sample"
	"mizzen/scalar"
	"mizzen/tree"
)

const bareBytes = "ABCDEFGHIJKLMNOPQRSTUVWXYZabcdefghijklmnopqrstuvwxyz0123456789_-./"

func TestBare(t *testing.T) {
	for _, c := range []struct {
		s    string
		bare bool
	}{
		{"a", true},
		{"Z", true},
		{"v1.2/x", true},
		{"a-_./9Z", true},
		{"a.", true},
		{strings.Repeat("a/", 1<<17), true},
		{"", false},
		{"1a", false},
		{"_a", false},
		{"-a", false},
		{".a", false},
		{"/a", false},
		{"~", false},
		{"a b", false},
		{" a", false},
		{"a ", false},
		{"a:", false},
		{"a\n", false},
		{"é", false},
		{"aé", false},
		{"a\xff", false},
		{strings.Repeat("a", 1<<17) + " ", false},
		{"null", false},
		{"true", false},
		{"false", false},
		{"Null", true},
		{"TRUE", true},
		{"nul", true},
		{"nulls", true},
		{"true.", true},
		{"null/false", true},
	} {
		if got := scalar.Bare(c.s); got != c.bare {
			t.Errorf("Bare(%.40q): %v", c.s, got)
		}
	}
}

func TestBareByteByByte(t *testing.T) {
	for c := range 256 {
		s := string([]byte{byte(c)})
		at := strings.IndexByte(bareBytes, byte(c))
		if got := scalar.Bare(s); got != (at >= 0 && at < 52) {
			t.Errorf("Bare of byte %d: %v", c, got)
		}
		if got := scalar.Bare("a" + s + "z"); got != (at >= 0) {
			t.Errorf("Bare with byte %d: %v", c, got)
		}
		if got := scalar.Bare("az" + s); got != (at >= 0) {
			t.Errorf("Bare with byte %d at the end: %v", c, got)
		}
	}
}

func TestParse(t *testing.T) {
	noughts := strings.Repeat("0", 1<<16)
	for _, c := range []struct {
		s string
		v api.Value
	}{
		{"", tree.Null()},
		{"~", tree.Null()},
		{"null", tree.Null()},
		{"true", tree.Bool(true)},
		{"false", tree.Bool(false)},
		{"0", tree.Int(0)},
		{"-0", tree.Int(0)},
		{"7", tree.Int(7)},
		{"007", tree.Int(7)},
		{"-007", tree.Int(-7)},
		{"1234567890", tree.Int(1234567890)},
		{noughts, tree.Int(0)},
		{"-" + noughts + "19", tree.Int(-19)},
		{"9223372036854775807", tree.Int(math.MaxInt64)},
		{"009223372036854775807", tree.Int(math.MaxInt64)},
		{"-9223372036854775808", tree.Int(math.MinInt64)},
		{"-", tree.Str("-")},
		{"--1", tree.Str("--1")},
		{"1-", tree.Str("1-")},
		{"-1-1", tree.Str("-1-1")},
		{"+1", tree.Str("+1")},
		{"1.0", tree.Str("1.0")},
		{"1e3", tree.Str("1e3")},
		{"0x10", tree.Str("0x10")},
		{"1_000", tree.Str("1_000")},
		{"a1", tree.Str("a1")},
		{" 1", tree.Str(" 1")},
		{"1 ", tree.Str("1 ")},
		{"- 1", tree.Str("- 1")},
		{"1\n", tree.Str("1\n")},
		{"\u0663", tree.Str("\u0663")},
		{" ", tree.Str(" ")},
		{"~~", tree.Str("~~")},
		{" null", tree.Str(" null")},
		{"Null", tree.Str("Null")},
		{"NULL", tree.Str("NULL")},
		{"True", tree.Str("True")},
		{"truefalse", tree.Str("truefalse")},
		{"nil", tree.Str("nil")},
		{"yes", tree.Str("yes")},
		{"[]", tree.Str("[]")},
		{"{}", tree.Str("{}")},
		{`"a"`, tree.Str(`"a"`)},
		{"'1'", tree.Str("'1'")},
		{"a\xff\x00", tree.Str("a\xff\x00")},
		{noughts + "x", tree.Str(noughts + "x")},
	} {
		v, e := scalar.Parse(c.s)
		if e != api.OK || !tree.Same(v, c.v) || v.Kind != api.Str && tree.Check(v) != api.OK {
			t.Errorf("Parse(%.40q) = %.80v, %d", c.s, v, e)
		}
	}
}

func TestParseOfNumbersThatAreOver(t *testing.T) {
	for _, s := range []string{
		"9223372036854775808", "-9223372036854775809", "0009223372036854775808", "-09223372036854775809",
		"18446744073709551615", "18446744073709551616", "-18446744073709551616", "99999999999999999999",
		strings.Repeat("9", 1<<16), "-" + strings.Repeat("1", 1<<16),
	} {
		if v, e := scalar.Parse(s); e != api.ErrOver || !tree.Same(v, api.Value{}) || tree.Check(v) != api.OK {
			t.Errorf("Parse(%.40q) = %.80v, %d", s, v, e)
		}
	}
}

func TestParseByteByByte(t *testing.T) {
	for c := range 256 {
		isDigit := c >= '0' && c <= '9'
		for _, s := range []string{"1" + string([]byte{byte(c)}), "1" + string([]byte{byte(c)}) + "1", "-" + string([]byte{byte(c)})} {
			v, e := scalar.Parse(s)
			if e != api.OK || (v.Kind == api.Int) != isDigit || !isDigit && v.Str != s {
				t.Errorf("Parse(%q) = %v, %d", s, v, e)
			}
		}
	}
}

// words are values with their word, and their text.
func words() []struct {
	v          api.Value
	word, text string
} {
	one := tree.Int(1)
	return []struct {
		v          api.Value
		word, text string
	}{
		{tree.Null(), "null", ""},
		{tree.Bool(true), "true", "true"},
		{tree.Bool(false), "false", "false"},
		{tree.Int(0), "0", "0"},
		{tree.Int(7), "7", "7"},
		{tree.Int(-120), "-120", "-120"},
		{tree.Int(math.MaxInt64), "9223372036854775807", "9223372036854775807"},
		{tree.Int(math.MinInt64), "-9223372036854775808", "-9223372036854775808"},
		{tree.Str("a"), "a", "a"},
		{tree.Str("v1.2/x"), "v1.2/x", "v1.2/x"},
		{tree.Str("a b"), `"a b"`, "a b"},
		{tree.Str(""), `""`, ""},
		{tree.Str("~"), `"~"`, "~"},
		{tree.Str("null"), `"null"`, "null"},
		{tree.Str("true"), `"true"`, "true"},
		{tree.Str("false"), `"false"`, "false"},
		{tree.Str("12"), `"12"`, "12"},
		{tree.Str("-1"), `"-1"`, "-1"},
		{tree.Str("a\n\"\\\t"), `"a\n\"\\\t"`, "a\n\"\\\t"},
		{tree.Str("'a'"), `"'a'"`, "'a'"},
		{tree.Str("é"), `"é"`, "é"},
		{tree.List(), "[]", "[]"},
		{tree.List(one, tree.Str("a")), "[]", "[]"},
		{tree.Map(), "{}", "{}"},
		{tree.Map(api.Pair{Key: "a", Value: one}), "{}", "{}"},
	}
}

func TestPrintAndText(t *testing.T) {
	for _, c := range words() {
		if got := scalar.Print(c.v); got != c.word {
			t.Errorf("Print(%v) = %q, want %q", c.v, got, c.word)
		}
		if got := scalar.Text(c.v); got != c.text {
			t.Errorf("Text(%v) = %q, want %q", c.v, got, c.text)
		}
	}
}

// read is what a word is read as, in quotes or not.
func read(word string) (api.Value, string, api.Errno) {
	if strings.HasPrefix(word, `"`) {
		s, rest, e := scalar.Unquote(word)
		return tree.Str(s), rest, e
	}
	v, e := scalar.Parse(word)
	return v, "", e
}

func TestAWordThatIsPrintedIsReadAsItWas(t *testing.T) {
	l := sample.Values()
	for _, c := range words() {
		l = append(l, c.v)
	}
	for _, s := range sample.Texts(4, "1-~a. \"\n") {
		l = append(l, tree.Str(s))
	}
	for i := range 64 {
		l = append(l, tree.Int(1<<i-1), tree.Int(1<<i), tree.Int(-1<<i), tree.Int(-1<<i+1))
	}
	for _, v := range l {
		word := scalar.Print(v)
		if v.Kind == api.List || v.Kind == api.Map {
			continue
		}
		if got, rest, e := read(word); e != api.OK || rest != "" || !tree.Same(got, v) {
			t.Errorf("%v is printed as %q, and read as %v, %q, %d", v, word, got, rest, e)
		}
		if quoted := strings.HasPrefix(word, `"`); quoted != (v.Kind == api.Str && !scalar.Bare(v.Str)) {
			t.Errorf("%v is printed as %q", v, word)
		}
	}
}

func TestNoBareTextIsReadAsSomethingElse(t *testing.T) {
	for _, s := range slices.Concat(sample.Texts(4, "a-1~./"), []string{"null", "true", "false", "Null"}) {
		if v, e := scalar.Parse(s); scalar.Bare(s) && (e != api.OK || !tree.Same(v, tree.Str(s))) {
			t.Errorf("%q is read as %v, %d", s, v, e)
		}
	}
}

func TestAnyValuesAreTaken(t *testing.T) {
	for _, v := range slices.Concat(sample.Faulty(), []api.Value{sample.Nest(65535, tree.Int(1)), sample.Maps(65535, tree.Int(1))}) {
		word, text := scalar.Print(v), scalar.Text(v)
		if v.Kind == api.Int && (word != strconv.FormatInt(v.Int, 10) || text != word) {
			t.Errorf("a number with more than it should have: %q, %q", word, text)
		}
		if v.Kind < api.Null || v.Kind > api.Map {
			if word != "" || text != "" {
				t.Errorf("what has no kind: %q, %q", word, text)
			}
		}
	}
}
