package values_test

import (
	"math"
	"strings"
	"testing"

	"mizzen/api"
	"mizzen/path"
	"mizzen/tree"
	"mizzen/values"
)

func TestSet(t *testing.T) {
	for _, c := range []struct{ v, s, want string }{
		{"a: 1", "b.c=x", "{a: 1, b: {c: x}}"},
		{"{}", "a=1", "a: 1"},
		{"a: 1", "a=2", "a: 2"},
		{"a: 1", "a.b=2", "a: {b: 2}"},
		{"a: [1, 2]", "a.0=2", "a: {0: 2}"},
		{"a: {b: 1, c: 2}", "a.b=3", "a: {b: 3, c: 2}"},
		{"a: {b: 1, c: 2}", "a=3", "a: 3"},
		{"a: {b: {c: {d: 1}}, x: 1}", "a.b.c.e=2", "a: {b: {c: {d: 1, e: 2}}, x: 1}"},
		{"a.b: 1", "a.b=2", "{a: {b: 2}, a.b: 1}"},
		{"{}", "A-_9.0.-._=x", "{A-_9: {0: {-: {_: x}}}}"},
		{"{}", "a=-7", "a: -7"},
		{"{}", "a=007", "a: 7"},
		{"{}", "a=false", "a: false"},
		{"{}", "a=true", "a: true"},
		{"{}", "a=True", "a: True"},
		{"{}", "a=x y", "a: x y"},
		{"{}", "a= 1", "a: ' 1'"},
		{"{}", "a=1 ", "a: '1 '"},
		{"{}", "a=[1]", "a: '[1]'"},
		{"{}", "a={}", "a: '{}'"},
		{"{}", "a=1,b=2", "a: '1,b=2'"},
		{"{}", "a=x # y", "a: 'x # y'"},
		{"{}", "a=b: c", "a: 'b: c'"},
		{"{}", "a=x\ny\t", `a: "x\ny\t"`},
	} {
		sets(t, c.v, c.s, c.want)
	}
}

func TestTheFirstEqualsSignPartsASet(t *testing.T) {
	sets(t, "{}", "a=b=c", "a: b=c")
	sets(t, "{}", "a==", "a: '='")
	sets(t, "{}", "a==1", "a: '=1'")
	sets(t, "{}", `a="b=c"`, "a: b=c")
	sets(t, "{}", "a.b=c.d=e", "a: {b: c.d=e}")
}

func TestSetOfATextInQuotes(t *testing.T) {
	for _, c := range []struct{ s, want string }{
		{`a="1"`, "a: '1'"},
		{`a='1'`, "a: '1'"},
		{`a=""`, "a: ''"},
		{`a=''`, "a: ''"},
		{`a="null"`, "a: 'null'"},
		{`a='true'`, "a: 'true'"},
		{`a="x\n\t\"\\y"`, `a: "x\n\t\"\\y"`},
		{`a='it''s \n'`, `a: "it's \\n"`},
		{`a='"'`, `a: '"'`},
		{`a="'"`, `a: "'"`},
		{`a=x"y"`, `a: 'x"y"'`},
		{`a= "y"`, `a: ' "y"'`},
		{`a=-"y`, `a: '-"y'`},
		{`a="9223372036854775808"`, "a: '9223372036854775808'"},
	} {
		sets(t, "{}", c.s, c.want)
	}
}

// A set of nothing is laid over as any other: it takes out what stands there, and leaves maps on the way.
func TestSetOfNothing(t *testing.T) {
	for _, word := range []string{"", "~", "null"} {
		sets(t, "{a: 1, b: 2}", "a="+word, "b: 2")
		sets(t, "a: 1", "a="+word, "{}")
		sets(t, "a: {b: {c: 1}}", "a="+word, "{}")
		sets(t, "a: {b: 1, c: 2}", "a.b="+word, "a: {c: 2}")
		sets(t, "a: {b: 1}", "a.b="+word, "a: {}")
		sets(t, "{}", "a="+word, "{}")
		sets(t, "a: 1", "b.c="+word, "{a: 1, b: {}}")
		sets(t, "a: 1", "a.b.c="+word, "a: {b: {}}")
	}
}

func TestSetLeavesAllElseAsItIs(t *testing.T) {
	sets(t, "{a: ~, b: [~, {c: ~}], d: {e: ~, f: 1}}", "d.f=2", "{a: ~, b: [~, {c: ~}], d: {e: ~, f: 2}}")
	sets(t, "{a: ~, b: 1}", "a.c=2", "{a: {c: 2}, b: 1}")
	sets(t, "{a: ~, b: 1}", "b=~", "a: ~")
}

func TestSetOfWhatIsNoMap(t *testing.T) {
	for _, v := range []string{"~", "1", "x", "true", "[]", "[1]"} {
		sets(t, v, "a.b=1", "a: {b: 1}")
		sets(t, v, "a=~", "{}")
	}
}

func TestWord(t *testing.T) {
	for s, want := range map[string]api.Value{
		"": tree.Null(), "~": tree.Null(), "null": tree.Null(), "true": tree.Bool(true), "false": tree.Bool(false),
		"0": num(0), "-0": num(0), "007": num(7), "-12": num(-12), "9223372036854775807": num(math.MaxInt64), "-9223372036854775808": num(math.MinInt64),
		"x": str("x"), "a b": str("a b"), " ": str(" "), " 1": str(" 1"), "1.5": str("1.5"), "+1": str("+1"), "-": str("-"), "Null": str("Null"), "~~": str("~~"), "[1]": str("[1]"), "{}": str("{}"), "a: b": str("a: b"), "# x": str("# x"), "=": str("="), "`": str("`"), "\n": str("\n"), "\xff": str("\xff"),
		`""`: str(""), `''`: str(""), `"a"`: str("a"), `'a'`: str("a"), `"1"`: str("1"), `'null'`: str("null"), `"a\n\t\"\\"`: str("a\n\t\"\\"), `'a\n"'`: str(`a\n"`), `'''a'''`: str("'a'"), "'\n\t'": str("\n\t"), "\"\xff\"": str("\xff"),
		`a"`: str(`a"`), `a'b'`: str(`a'b'`), ` "a"`: str(` "a"`), `\"`: str(`\"`),
	} {
		v, e := values.Word(s)
		is(t, "Word of "+s, v, e, want)
	}
}

func TestWrongWords(t *testing.T) {
	for s, want := range map[string]api.Errno{
		`"`: api.ErrQuote, `'`: api.ErrQuote, `"a`: api.ErrQuote, `'a`: api.ErrQuote, `"a'`: api.ErrQuote, `'a"`: api.ErrQuote, `"a\"`: api.ErrQuote, `"\x"`: api.ErrQuote, `"\`: api.ErrQuote, "\"a\n\"": api.ErrQuote, "\"\t\"": api.ErrQuote, `'a''`: api.ErrQuote, `'''`: api.ErrQuote,
		`"\x" b`: api.ErrQuote, "\"\n\"b": api.ErrQuote,
		`"a"b`: api.ErrForm, `"a" `: api.ErrForm, `'a' `: api.ErrForm, `""""`: api.ErrForm, `"a" # b`: api.ErrForm, `'a'b'`: api.ErrForm, `'a'"b"`: api.ErrForm, `"a"'b'`: api.ErrForm, "'a'\n": api.ErrForm, `""1`: api.ErrForm, `"",`: api.ErrForm,
		"9223372036854775808": api.ErrOver, "-9223372036854775809": api.ErrOver, "00000000000000000000000000000010000000000000000000": api.ErrOver, strings.Repeat("9", 1<<16): api.ErrOver,
	} {
		v, e := values.Word(s)
		wrong(t, "Word of "+s, v, e, want)
		v, e = values.Set(of("a", num(1)), "a="+s)
		wrong(t, "Set by a="+s, v, e, want)
	}
}

func TestWrongSets(t *testing.T) {
	deep := strings.Repeat("a.", 15) + "a"
	for _, c := range []struct {
		s    string
		want api.Errno
	}{
		{"", api.ErrForm},
		{"a", api.ErrForm},
		{"a.b", api.ErrForm},
		{"a: 1", api.ErrForm},
		{"=", api.ErrForm},
		{"=1", api.ErrForm},
		{"a.=1", api.ErrForm},
		{".a=1", api.ErrForm},
		{"a..b=1", api.ErrForm},
		{"a =1", api.ErrForm},
		{" a=1", api.ErrForm},
		{"a b=1", api.ErrForm},
		{"a/b=1", api.ErrForm},
		{"a[0]=1", api.ErrForm},
		{"\n=1", api.ErrForm},
		{"\xff=1", api.ErrForm},
		{`"a"=1`, api.ErrForm},
		{`"a=b"=1`, api.ErrForm},
		{xs(257) + "=1", api.ErrForm},
		{"a." + xs(257) + "=1", api.ErrForm},
		{deep + "=1", api.ErrDeep},
		{"a=\xff", api.ErrForm},
		{"a=\r", api.ErrForm},
		{"a='\x00'", api.ErrForm},
		// The error that the chapter names first is told.
		{deep, api.ErrForm},
		{deep + `="x`, api.ErrDeep},
		{"?." + deep + "=1", api.ErrDeep},
		{`a b="x`, api.ErrForm},
		{"a b=9223372036854775808", api.ErrForm},
		{"a=9223372036854775808=", api.OK},
	} {
		v, e := values.Set(of("a", num(1)), c.s)
		if c.want == api.OK {
			is(t, "Set by "+c.s, v, e, of("a", str(c.s[2:])))
			continue
		}
		wrong(t, "Set by "+c.s, v, e, c.want)
	}
}

func TestSetOf15Steps(t *testing.T) {
	steps := strings.Repeat("a.", api.MaxDepth-2) + "a"
	v, e := values.Set(of("b", num(1)), steps+"=x")
	if x, ok := path.Get(v, strings.Split(steps, ".")...); e != api.OK || !ok || x.Str != "x" || tree.Depth(v) != api.MaxDepth {
		t.Errorf("%s, %d", told(v), e)
	}
	v, e = values.Set(of("b", num(1)), steps+".a=x")
	wrong(t, "16 steps", v, e, api.ErrDeep)
}

func TestSetOfAStepOf256Bytes(t *testing.T) {
	v, e := values.Set(of(), xs(api.MaxKey)+"=1")
	is(t, "a step of 256 bytes", v, e, of(xs(api.MaxKey), num(1)))
	v, e = values.Set(of(), xs(api.MaxKey+1)+"=1")
	wrong(t, "a step of 257 bytes", v, e, api.ErrForm)
}

func TestSetOfATextOf65536Bytes(t *testing.T) {
	most := xs(api.MaxText)
	for _, quote := range []string{"", `"`, "'"} {
		v, e := values.Set(of(), "a="+quote+most+quote)
		is(t, "65536 bytes", v, e, of("a", str(most)))
		v, e = values.Set(of(), "a="+quote+most+"x"+quote)
		wrong(t, "65537 bytes", v, e, api.ErrForm)
		v, e = values.Word(quote + most + "x" + quote)
		is(t, "a word of 65537 bytes", v, e, str(most+"x"))
	}
}

// numbered is a map with a list of nothings: so many values in all.
func numbered(n int) api.Value { return of("l", tree.List(make([]api.Value, n-2)...)) }

func TestSetMakes4096Values(t *testing.T) {
	v, e := values.Set(numbered(api.MaxNodes-1), "a=1")
	if e != api.OK || tree.Size(v) != api.MaxNodes {
		t.Errorf("%d values, %d", tree.Size(v), e)
	}
	full := numbered(api.MaxNodes)
	for _, s := range []string{"a=1", "a.b=1", "l2=", "l2.a="} {
		v, e = values.Set(full, s)
		if s == "l2=" {
			is(t, "nothing into 4096 values", v, e, full)
			continue
		}
		wrong(t, "Set of 4096 values by "+s, v, e, api.ErrSize)
	}
	v, e = values.Set(full, "l=1")
	is(t, "a list of 4094 values set", v, e, of("l", num(1)))
	v, e = values.Set(full, `a="`)
	wrong(t, "a wrong word ahead of the size", v, e, api.ErrQuote)
	v, e = values.Set(full, "a=\xff")
	wrong(t, "the size ahead of a wrong text", v, e, api.ErrSize)
}

func TestSetTellsWhatIsWrongWithAllThatComesOfIt(t *testing.T) {
	for _, c := range []struct {
		v    api.Value
		want api.Errno
	}{
		{of("b", api.Value{Kind: 9}), api.ErrKind},
		{of("b", str("\xff")), api.ErrForm},
		{of("", num(1)), api.ErrKey},
		{of("b", tree.List(of("\t", num(1)))), api.ErrKey},
	} {
		v, e := values.Set(c.v, "a=1")
		wrong(t, "Set of "+told(c.v), v, e, c.want)
	}
}
