package parse_test

import (
	"math"
	"strings"
	"testing"

	"mizzen/api"
	"mizzen/parse"
	"mizzen/tree"
)

func TestName(t *testing.T) {
	long := strings.Repeat("x", api.MaxKey)
	for s, want := range map[string]bool{
		"a": true, "z": true, "A": true, "Z": true, "_": true, "a0": true, "a9_Z": true, "__1": true, "true": true, "end": true, long: true,
		"": false, "0": false, "1a": false, "a-b": false, "a.b": false, "a b": false, " a": false, "a ": false, "$a": false, "é": false, "aé": false, "a\x00": false, long + "x": false,
		"@": false, "[": false, "`": false, "{": false, "a/": false, "a:": false, "a\n": false,
	} {
		if parse.Name(s) != want {
			t.Errorf("Name(%.50q) = %t", s, !want)
		}
	}
	for c := range 256 {
		s := string([]byte{byte(c)})
		letter := c == '_' || c >= 'a' && c <= 'z' || c >= 'A' && c <= 'Z'
		if parse.Name(s) != letter || parse.Name("a"+s) != (letter || c >= '0' && c <= '9') {
			t.Errorf("byte %d: %t first, %t behind", c, parse.Name(s), parse.Name("a"+s))
		}
	}
}

func TestOperands(t *testing.T) {
	long := strings.Repeat("x", api.MaxKey)
	for _, c := range []struct {
		s    string
		want parse.Expr
	}{
		{`""`, str("")},
		{`"a b"`, str("a b")},
		{`"a\n\t\"\\|)"`, str("a\n\t\"\\|)")},
		{"\"é\xff\"", str("é\xff")},
		{"0", num(0)},
		{"7", num(7)},
		{"007", num(7)},
		{"-1", num(-1)},
		{"-0", num(0)},
		{"-007", num(-7)},
		{"9223372036854775807", num(math.MaxInt64)},
		{"-9223372036854775808", num(math.MinInt64)},
		{"true", lit(tree.Bool(true))},
		{"false", lit(tree.Bool(false))},
		{"nil", lit(tree.Null())},
		{".", dot()},
		{".a", dot("a")},
		{".a.b_1.C", dot("a", "b_1", "C")},
		{".true.if.end", dot("true", "if", "end")},
		{"." + long + "." + long, dot(long, long)},
		{"$x", variable("x")},
		{"$x.a.b", variable("x", "a", "b")},
		{"$true", variable("true")},
		{"$" + long, variable(long)},
		{"(.a)", dot("a")},
		{"( 1 )", num(1)},
		{"((($x.y)))", variable("x", "y")},
		{" \t\n.a \t\n", dot("a")},
	} {
		wantPipe(t, c.s, c.want)
		wantPipe(t, "f "+c.s, call("f", c.want))
		wantPipe(t, "f "+c.s+" "+c.s, call("f", c.want, c.want))
		wantPipe(t, "g("+c.s+")1", call("g", c.want, num(1)))
		wantPipe(t, c.s+"|f", call("f", c.want))
		wantPipe(t, c.s+"\n|\tf 2 | g", call("g", call("f", num(2), c.want)))
	}
}

func TestCalls(t *testing.T) {
	for _, c := range []struct {
		s    string
		want parse.Expr
	}{
		{"f", call("f")},
		{"truely", call("truely")},
		{"nil_", call("nil_")},
		{"True", call("True")},
		{"if", call("if")},
		{"end", call("end")},
		{"else .a", call("else", dot("a"))},
		{"define 1", call("define", num(1))},
		{"_1", call("_1")},
		{"f g h", call("f", call("g"), call("h"))},
		{"f true g nil", call("f", lit(tree.Bool(true)), call("g"), lit(tree.Null()))},
		{"f .a . .b", call("f", dot("a"), dot(), dot("b"))},
		{"f .a.b .c", call("f", dot("a", "b"), dot("c"))},
		{"f $x .c $x.c", call("f", variable("x"), dot("c"), variable("x", "c"))},
		{"f (g .a) (h)", call("f", call("g", dot("a")), call("h"))},
		{"f (g (h 1) 2) 3", call("f", call("g", call("h", num(1)), num(2)), num(3))},
		{"(f 1)", call("f", num(1))},
		{"(f) | g", call("g", call("f"))},
		{".a | f", call("f", dot("a"))},
		{".a | f 1 2", call("f", num(1), num(2), dot("a"))},
		{".a | f | g 1 | h", call("h", call("g", num(1), call("f", dot("a"))))},
		{"f 1 | g 2", call("g", num(2), call("f", num(1)))},
		{"(.a | f) | g (.b | h 1)", call("g", call("h", num(1), dot("b")), call("f", dot("a")))},
		{"f (.a|g)|h", call("h", call("f", call("g", dot("a"))))},
		{`f"a""b"`, call("f", str("a"), str("b"))},
		{`f.a$x(g)-1"y"`, call("f", dot("a"), variable("x"), call("g"), num(-1), str("y"))},
		{"f 1-1", call("f", num(1), num(-1))},
		{"f(.a).b", call("f", dot("a"), dot("b"))},
		{"f\n.a\t.b", call("f", dot("a"), dot("b"))},
		{"(\tf\n)\n|\ng", call("g", call("f"))},
	} {
		wantPipe(t, c.s, c.want)
	}
}

func TestNoPipe(t *testing.T) {
	long := strings.Repeat("x", api.MaxKey+1)
	for _, s := range []string{
		"", " ", "\n", "|", "f |", "| f", "f || g", "(", ")", "()", "( )", "(f", "f)", "f(", "f()", "(f))", "(f|)", "(|f)", ".a.", "..", "...", ".a..b", ".1", "1.5",
		"$", "$ x", "$1", "$.a", "$$", "$x $y", "$x.", "$x.1", "$é", ".é", "é", "-", "--1", "- 1", "-a", "+1", "1 2", "1a", "1 f", ".a .b", ".a f", "true f", "true 1", "nil nil", "(f) 1", "(f) g", `"a" "b"`, `"a"b`,
		".a | 1", ".a | .b", ".a | true", ".a | nil", ".a | (f)", ".a | $x", `.a | "f"`, ".a | -", "'a'", "`a`", "#", "f,", "f , g", "f:", "f := 1", "$x := 1", "$x, $y := .l", "f/g", "f-g", "f*", "f[0]", "{", "}", "f\r", "\vf", "f\x00", "f\\", "f\u00a0g", "f =", "!f",
		long, "." + long, "$" + long, "$x." + long, "f " + long, "f | " + long, ". a", "$x .a", "f . | .",
	} {
		wantNoPipe(t, s, api.ErrToken)
	}
	for _, s := range []string{`"`, `"a`, `"\"`, `"\x"`, "\"a\nb\"", "\"a\tb\"", `f "`, `f 1 "a`, `.a | f "\q"`, `("`, `(((f "\`} {
		wantNoPipe(t, s, api.ErrQuote)
	}
	for _, s := range []string{"9223372036854775808", "-9223372036854775809", "f 99999999999999999999", ".a | f (18446744073709551616)", "(10000000000000000000)"} {
		wantNoPipe(t, s, api.ErrOver)
	}
}

func TestTheFirstErrorFromTheLeft(t *testing.T) {
	over, quote, deep := "9223372036854775808", `"\x"`, strings.Repeat("(", api.MaxDepth+1)
	for _, c := range []struct {
		s     string
		wrong api.Errno
	}{
		{"f " + over + " " + quote, api.ErrOver},
		{"f " + quote + " " + over, api.ErrQuote},
		{"f # " + quote, api.ErrToken},
		{"f " + quote + " #", api.ErrQuote},
		{"f " + over + " #", api.ErrOver},
		{"1 " + over, api.ErrToken},
		{over + " 1", api.ErrOver},
		{over + "x", api.ErrOver},
		{quote + " 1", api.ErrQuote},
		{". | " + over, api.ErrToken},
		{deep + quote, api.ErrDeep},
		{deep, api.ErrDeep},
		{"f " + deep + "#", api.ErrDeep},
		{"f # " + deep, api.ErrToken},
		{"f " + quote + deep, api.ErrQuote},
		{"f " + over + deep, api.ErrOver},
		{"1 " + deep, api.ErrToken},
	} {
		wantNoPipe(t, c.s, c.wrong)
		wantWrong(t, "{{"+c.s+"}}", c.wrong)
		wantWrong(t, "{{ if "+c.s+" }}{{ end }}", c.wrong)
	}
}

func TestBracketsInEachOther(t *testing.T) {
	in := func(n int, s string) string { return strings.Repeat("(", n) + s + strings.Repeat(")", n) }
	wantPipe(t, in(api.MaxDepth, ".a"), dot("a"))
	wantNoPipe(t, in(api.MaxDepth+1, ".a"), api.ErrDeep)
	wantPipe(t, "f "+in(api.MaxDepth, "1|g")+in(api.MaxDepth, "2")+"|h", call("h", call("f", call("g", num(1)), num(2))))
	wantNoPipe(t, "f "+in(api.MaxDepth, "1")+in(api.MaxDepth+1, "2"), api.ErrDeep)
	wantNoPipe(t, "1 | f "+in(api.MaxDepth+1, "2"), api.ErrDeep)
	wantNoPipe(t, strings.Repeat("(f ", api.MaxDepth+1), api.ErrDeep)
	wantNoPipe(t, strings.Repeat("(f ", api.MaxDepth), api.ErrToken)
	nested := dot()
	for range api.MaxDepth {
		nested = call("f", nested)
	}
	wantPipe(t, strings.Repeat("(f ", api.MaxDepth)+"."+strings.Repeat(")", api.MaxDepth), nested)
}

func TestManyCommands(t *testing.T) {
	const many = 30000
	x, e := parse.Pipe("." + strings.Repeat("|f", many))
	n := 0
	for x.Kind == parse.Call && x.Name == "f" && len(x.Args) == 1 {
		x = x.Args[0]
		n++
	}
	if e != api.OK || n != many || x.Kind != parse.Dot {
		t.Errorf("%d calls, %d", n, e)
	}
	x, e = parse.Pipe("f" + strings.Repeat(" .", many))
	if e != api.OK || len(x.Args) != many {
		t.Errorf("%d arguments, %d", len(x.Args), e)
	}
}
