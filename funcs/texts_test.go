package funcs_test

import (
	"math"
	"slices"
	"strings"
	"testing"

	"mizzen/api"
	"mizzen/sample"
	"mizzen/scalar"
	"mizzen/yaml"
)

func TestTexts(t *testing.T) {
	for _, c := range []struct{ s, upper, lower, trim string }{
		{"", "", "", ""},
		{"a", "A", "a", "a"},
		{"Z", "Z", "z", "Z"},
		{"aBc xYz", "ABC XYZ", "abc xyz", "aBc xYz"},
		{"`az{@AZ[", "`AZ{@AZ[", "`az{@az[", "`az{@AZ["},
		{" \t\na b\n\t ", " \t\nA B\n\t ", " \t\na b\n\t ", "a b"},
		{" \n\t", " \n\t", " \n\t", ""},
		{"\ra\v", "\rA\v", "\ra\v", "\ra\v"},
		{"é\xffß\x80i", "é\xffß\x80I", "é\xffß\x80i", "é\xffß\x80i"},
		{"\u00a0k\u212a\u017f", "\u00a0K\u212a\u017f", "\u00a0k\u212a\u017f", "\u00a0k\u212a\u017f"},
		{" \xff ", " \xff ", " \xff ", "\xff"},
	} {
		gives(t, str(c.upper), "upper", str(c.s))
		gives(t, str(c.lower), "lower", str(c.s))
		gives(t, str(c.trim), "trim", str(c.s))
		gives(t, str(c.s), "toString", str(c.s))
		gives(t, str(scalar.Quote(c.s)), "quote", str(c.s))
	}
	gives(t, str(`"a \"b\"\n\t\\"`), "quote", str("a \"b\"\n\t\\"))
	for c := range 256 {
		s := string([]byte{byte(c)})
		upper, lower := s, s
		if 'a' <= c && c <= 'z' {
			upper = string(rune(c - 32))
		}
		if 'A' <= c && c <= 'Z' {
			lower = string(rune(c + 32))
		}
		gives(t, str(upper+upper), "upper", str(s+s))
		gives(t, str(lower+lower), "lower", str(s+s))
	}
}

func TestTextsOfOtherValues(t *testing.T) {
	for _, c := range []struct {
		v    api.Value
		text string
	}{
		{null(), ""}, {yes(), "true"}, {no(), "false"}, {num(0), "0"}, {num(-7), "-7"}, {num(math.MinInt64), "-9223372036854775808"},
		{list(), "[]"}, {list(str("a")), "[]"}, {of(), "{}"}, {of("a", num(1)), "{}"},
	} {
		gives(t, str(strings.ToUpper(c.text)), "upper", c.v)
		gives(t, str(c.text), "lower", c.v)
		gives(t, str(c.text), "trim", c.v)
		gives(t, str(c.text), "toString", c.v)
		gives(t, str(`"`+c.text+`"`), "quote", c.v)
		gives(t, str(c.text), "print", c.v)
		gives(t, str("  "+c.text), "indent", num(2), c.v)
		gives(t, str("\n  "+c.text), "nindent", num(2), c.v)
		gives(t, str("a"+c.text+"b"), "join", c.v, list(str("a"), str("b")))
		gives(t, str(c.text+","+c.text), "join", str(","), list(c.v, c.v))
	}
}

func TestPrint(t *testing.T) {
	gives(t, str(""), "print")
	gives(t, str(""), "print", str(""), null())
	gives(t, str("a1true b[]{}"), "print", str("a"), num(1), null(), yes(), str(" b"), list(num(1)), of("a", null()))
}

func TestJoin(t *testing.T) {
	gives(t, str("1,2"), "join", str(","), list(num(1), num(2)))
	gives(t, str(""), "join", str(","), list())
	gives(t, str("a"), "join", str(","), list(str("a")))
	gives(t, str(",,"), "join", str(","), list(null(), str(""), null()))
	gives(t, str("a[]{}"), "join", null(), list(str("a"), list(num(1)), of("b", num(1))))
	gives(t, str("a\n--b"), "join", str("\n--"), list(str("a"), str("b")))
	for _, v := range []api.Value{null(), yes(), num(1), str("a,b"), of("a", num(1)), str("")} {
		fails(t, api.ErrKind, "join", str(","), v)
	}
	fails(t, api.ErrKind, "join", list(str("a")), str(","))
}

func TestToYaml(t *testing.T) {
	for _, v := range slices.Concat(sample.Values(), args(str("a: b"), str("\xff\n"), list(str("\x00")))) {
		gives(t, str(strings.TrimSuffix(yaml.Emit(v), "\n")), "toYaml", v)
	}
	gives(t, str("null"), "toYaml", null())
	gives(t, str(`"a\n"`), "toYaml", str("a\n"))
	gives(t, str("[]"), "toYaml", list())
	gives(t, str("a: 1\nb:\n  - x\n  -\n    c: {}"), "toYaml", of("b", list(str("x"), of("c", of())), "a", num(1)))
}

func TestIndent(t *testing.T) {
	for _, c := range []struct {
		n           int64
		s, indented string
	}{
		{0, "", ""}, {0, "a\nb\n", "a\nb\n"}, {2, "", "  "}, {2, "a", "  a"}, {2, "a\nb", "  a\n  b"}, {2, "a\n", "  a\n  "},
		{2, "\n", "  \n  "}, {1, "\n\na\n\n", " \n \n a\n \n "}, {3, " a\n\tb", "    a\n   \tb"}, {1, "a\r\nb", " a\r\n b"}, {1, "\xff\n\x80", " \xff\n \x80"},
		{64, "a\nb", strings.Repeat(" ", 64) + "a\n" + strings.Repeat(" ", 64) + "b"},
	} {
		gives(t, str(c.indented), "indent", num(c.n), str(c.s))
		gives(t, str("\n"+c.indented), "nindent", num(c.n), str(c.s))
	}
}

func TestIndentOfNoSuchNumber(t *testing.T) {
	for _, name := range []string{"indent", "nindent"} {
		for _, n := range []int64{-1, 65, 66, 256, 1 << 32, 1<<32 + 1, -1 << 32, math.MaxInt64, math.MinInt64} {
			fails(t, api.ErrArg, name, num(n), str("a"))
			fails(t, api.ErrArg, name, num(n), str(strings.Repeat("\n", 65536)))
		}
		for _, v := range []api.Value{null(), yes(), str("2"), str(""), list(num(2)), of("a", num(2))} {
			fails(t, api.ErrKind, name, v, str("a"))
			fails(t, api.ErrKind, name, v, num(65))
		}
	}
}
