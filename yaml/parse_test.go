package yaml_test

import (
	"math"
	"strings"
	"testing"

	"mizzen/api"
	"mizzen/tree"
)

func TestParseByExample(t *testing.T) {
	wantRead(t, "a: 1 # x\nb: [x, {c: 2}]", of("a", one(1), "b", list(str("x"), of("c", one(2)))))
	wantRead(t, "", null())
	wantRead(t, "\n", null())
	wantRead(t, "  \n\n# a: 1\n   # b", null())
	wantRead(t, "- a\n- b: 1\n  c:\n    - 2\n    - []\n-\n  - {}\n", list(str("a"), of("b", one(1), "c", list(one(2), list())), list(of())))
}

// words are texts that are words wherever a value may stand, with their value.
func words() []struct {
	s string
	v api.Value
} {
	return []struct {
		s string
		v api.Value
	}{
		{"~", null()},
		{"null", null()},
		{"true", tree.Bool(true)},
		{"false", tree.Bool(false)},
		{"0", one(0)},
		{"007", one(7)},
		{"-12", one(-12)},
		{"9223372036854775807", one(math.MaxInt64)},
		{"-9223372036854775808", one(math.MinInt64)},
		{"a", str("a")},
		{"a b  c", str("a b  c")},
		{"Null", str("Null")},
		{"1.5", str("1.5")},
		{"+1", str("+1")},
		{"-x", str("-x")},
		{"--", str("--")},
		{"---", str("---")},
		{"a:b", str("a:b")},
		{"http://a.b:80/c?d=e&f#g", str("http://a.b:80/c?d=e&f#g")},
		{"a::b", str("a::b")},
		{"a:\tb", str("a:\tb")},
		{"a#b", str("a#b")},
		{"a [b{c", str("a [b{c")},
		{"a &*!|>%@?`", str("a &*!|>%@?`")},
		{"it's", str("it's")},
		{`a"b"`, str(`a"b"`)},
		{`a \n`, str(`a \n`)},
		{`a "b`, str(`a "b`)},
		{"rock 'n roll", str("rock 'n roll")},
		{"a\tb\t", str("a\tb\t")},
		{"(a)", str("(a)")},
		{"<<", str("<<")},
		{"=", str("=")},
		{".", str(".")},
		{"$a", str("$a")},
		{"_", str("_")},
		{"^", str("^")},
		{";", str(";")},
		{"/", str("/")},
		{`\`, str(`\`)},
		{`"a"`, str("a")},
		{`'a'`, str("a")},
		{`""`, str("")},
		{`''`, str("")},
		{`"1"`, str("1")},
		{`'null'`, str("null")},
		{`"a: b, [c] {d} # e"`, str("a: b, [c] {d} # e")},
		{`'a: b, [c] {d} # e'`, str("a: b, [c] {d} # e")},
		{`"\n\t\"\\"`, str("\n\t\"\\")},
		{`'it''s'`, str("it's")},
		{`'a\n"'`, str(`a\n"`)},
		{"'a\tb'", str("a\tb")},
		{"[]", list()},
		{"{}", of()},
		{"[   ]", list()},
		{"{  }", of()},
		{"[a]", list(str("a"))},
		{"[a, 1, ~]", list(str("a"), one(1), null())},
		{"[a,b , c]", list(str("a"), str("b"), str("c"))},
		{"[  a  b  ,  c  ]", list(str("a  b"), str("c"))},
		{"[[],[[a]],{}]", list(list(), list(list(str("a"))), of())},
		{`["a, ]",'b, }' , "c"]`, list(str("a, ]"), str("b, }"), str("c"))},
		{"[a}, {b: c]}]", list(str("a}"), of("b", str("c]")))},
		{"[- a, -]", list(str("- a"), str("-"))},
		{"[a:b]", list(str("a:b"))},
		{"[a[b, c{d]", list(str("a[b"), str("c{d"))},
		{"{a: 1}", of("a", one(1))},
		{"{a: 1, b: x y}", of("a", one(1), "b", str("x y"))},
		{"{b:1,a:2}", of("a", one(2), "b", one(1))},
		{"{  a  :  1  ,  b  :  2  }", of("a", one(1), "b", one(2))},
		{`{"a": 1, 'b, }' : 2, "c":3}`, of("a", one(1), "b, }", one(2), "c", one(3))},
		{"{a:b:c}", of("a", str("b:c"))},
		{"{a b: c}", of("a b", str("c"))},
		{"{a[b: 1, c{: 2, d\"e': 3}", of("a[b", one(1), "c{", one(2), `d"e'`, one(3))},
		{"{null: 1, 7: 2, true: ~}", of("null", one(1), "7", one(2), "true", null())},
		{"{a: {b: [c, {d: e}]}, f: []}", of("a", of("b", list(str("c"), of("d", str("e")))), "f", list())},
		{"{a:[1],b:{c:2}}", of("a", list(one(1)), "b", of("c", one(2)))},
		{"{a: b{c, d: [e]}", of("a", str("b{c"), "d", list(str("e")))},
		{"{-: -, - a: - b}", of("-", str("-"), "- a", str("- b"))},
		{`{a:"b",c:'d'}`, of("a", str("b"), "c", str("d"))},
	}
}

func TestValuesInALine(t *testing.T) {
	for _, c := range words() {
		wantRead(t, c.s, c.v)
		wantRead(t, c.s+"   ", c.v)
		wantRead(t, "\n\n  "+c.s+"\n", c.v)
		wantRead(t, "a: "+c.s, of("a", c.v))
		wantRead(t, "a:\n   "+c.s, of("a", c.v))
		wantRead(t, "- "+c.s, list(c.v))
		wantRead(t, "-\n "+c.s, list(c.v))
		wantRead(t, "[ "+c.s+" , 1]", list(c.v, one(1)))
		wantRead(t, "["+c.s+",[1]]", list(c.v, list(one(1))))
		wantRead(t, "{a: "+c.s+"}", of("a", c.v))
		wantRead(t, "{a: "+c.s+", b: 1}", of("a", c.v, "b", one(1)))
	}
}

func TestWordsByTheirFirstByte(t *testing.T) {
	for c := byte('!'); c <= '~'; c++ {
		s := string([]byte{c}) + "x"
		if strings.IndexByte("[]{},&*!|>%@#?:\"'`", c) < 0 {
			wantRead(t, s, str(s))
			wantRead(t, "a: "+s, of("a", str(s)))
			wantRead(t, s+": 1", of(s, one(1)))
			wantRead(t, "["+s+"]", list(str(s)))
			wantRead(t, "{"+s+": "+s+"}", of(s, str(s)))
		} else if strings.IndexByte("[{#\"'", c) < 0 { // these open something
			for _, text := range []string{s, "a: " + s, "a:\n  " + s, "- " + s, s + ": 1", "a: 1\n" + s + ": 1", "[" + s + "]", "[a, " + s + "]", "{" + s + ": 1}", "{a: " + s + "}"} {
				wantWrong(t, text, api.ErrForm)
			}
		}
	}
}

func TestLines(t *testing.T) {
	ab := of("a", one(1), "b", one(2))
	for _, s := range []string{
		"a: 1\nb: 2", "a: 1\nb: 2\n", "\n\na: 1\n\n   \nb: 2\n\n", "a: 1   \nb: 2 ", "   a: 1\n   b: 2",
		"# x\na: 1\n  # y\n      #\nb: 2\n#", "a: 1 # x\nb: 2   #", "a: 1 #b: 3\nb: 2 ## x # y", "a: # x\n  1 # y\nb:    2",
		"a: 1 # it's \"x\nb: 2 # \t", "# \t\na: 1\n   # \t'\nb: 2",
	} {
		wantRead(t, s, ab)
	}
	wantRead(t, "a#b", str("a#b"))
	wantRead(t, "a #b", str("a"))
	wantRead(t, "a# b #c", str("a# b"))
	wantRead(t, "a\t# b", str("a\t# b"))
	wantRead(t, "a\t #b", str("a\t"))
	wantRead(t, "#a", null())
	wantRead(t, "a: #b", of("a", null()))
	wantRead(t, "- #b", list(null()))
	wantRead(t, "-#b", str("-#b"))
	wantRead(t, "[a,b] #c", list(str("a"), str("b")))
	wantRead(t, "a:\n  # x\n# y\n  b", of("a", str("b")))
}

func TestQuotesAndComments(t *testing.T) {
	for _, c := range []struct {
		s string
		v api.Value
	}{
		{`"a # b" # c`, str("a # b")},
		{`'a # b' # c`, str("a # b")},
		{`'# a' #`, str("# a")},
		{`"a \" # b" # c`, str(`a " # b`)},
		{`"a\\" # b"`, str(`a\`)},
		{`'a '' # b' # c`, str("a ' # b")},
		{`'a\' # b'`, str(`a\`)},
		{`  "a # b"`, str("a # b")},
		{`a: "# b" # c`, of("a", str("# b"))},
		{`"a # b": 'c # d' # e`, of("a # b", str("c # d"))},
		{`- "a # b" # c`, list(str("a # b"))},
		{`["a # b",'c # d', "e # f"] # g`, list(str("a # b"), str("c # d"), str("e # f"))},
		{`{"a # b": 'c # d'} # e`, of("a # b", str("c # d"))},
		{`a "b # c" # d`, str(`a "b # c"`)},
		{`a 'b # c' # d`, str("a 'b # c'")},
		{`a,"b # c" # d`, str(`a,"b # c"`)},
		{`a["b # c" # d`, str(`a["b # c"`)},
		{`a{'b # c' # d`, str("a{'b # c'")},
		{`a"b # c"`, str(`a"b`)},
		{`a'b # c'`, str("a'b")},
		{`a:"b # c"`, str(`a:"b`)},
		{`a]"b # c"`, str(`a]"b`)},
		{"a\t\"b # c\"", str("a\t\"b")},
		{`a "b # c`, str(`a "b # c`)},
		{`a '' '' # b`, str("a '' ''")},
		{`# "a`, null()},
		{`a # "b`, str("a")},
	} {
		wantRead(t, c.s, c.v)
	}
}

func TestKeys(t *testing.T) {
	long := strings.Repeat("k", 256)
	for _, c := range []struct{ s, key string }{
		{"a: 1", "a"},
		{"a:    1", "a"},
		{"a b: 1", "a b"},
		{"a:b: 1", "a:b"},
		{"http://x: 1", "http://x"},
		{"null: 1", "null"},
		{"~: 1", "~"},
		{"007: 1", "007"},
		{"99999999999999999999: 1", "99999999999999999999"},
		{"-: 1", "-"},
		{"--- : 1", "--- "},
		{"a : 1", "a "},
		{"a, ]}: 1", "a, ]}"},
		{`a "b": 1`, `a "b"`},
		{"it's: 1", "it's"},
		{"a#b: 1", "a#b"},
		{`"a": 1`, "a"},
		{`'a':  1`, "a"},
		{`"a: b": 1`, "a: b"},
		{`'it''s': 1`, "it's"},
		{`"a\"\\": 1`, `a"\`},
		{`"- a": 1`, "- a"},
		{`"1": 1`, "1"},
		{`" ": 1`, " "},
		{long + ": 1", long},
	} {
		wantRead(t, c.s, of(c.key, one(1)))
		wantRead(t, "- "+c.s, list(of(c.key, one(1))))
		wantRead(t, "A: 0\n"+c.s, of("A", one(0), c.key, one(1)))
		wantRead(t, strings.TrimRight(c.s, "1"), of(c.key, null()))
		wantRead(t, strings.TrimRight(c.s, " 1")+"\n  1", of(c.key, one(1)))
	}
	wantRead(t, "a: 1\n- b: 2", of("a", one(1), "- b", one(2)))
	wantRead(t, "b: 1\na: 2\nc: 3\nB: 4", of("B", one(4), "a", one(2), "b", one(1), "c", one(3)))
}

func TestLists(t *testing.T) {
	a, b := str("a"), str("b")
	for _, c := range []struct {
		s string
		v api.Value
	}{
		{"-", list(null())},
		{"- ", list(null())},
		{"-\n-", list(null(), null())},
		{"- a\n-\n- b", list(a, null(), b)},
		{"-    a\n- b", list(a, b)},
		{"  - a\n  - b", list(a, b)},
		{"-\n  a\n-\n      b", list(a, b)},
		{"-\n a", list(a)},
		{"- - a\n  - b", list(list(a, b))},
		{"- - a\n- - b", list(list(a), list(b))},
		{"- - - a\n    - b\n  - a\n- b", list(list(list(a, b), a), b)},
		{"- -", list(list(null()))},
		{"- -\n    a", list(list(a))},
		{"- -\n  - a", list(list(null(), a))},
		{"-   - a\n    - b", list(list(a, b))},
		{"-\n  - a\n  - b\n-\n    - a", list(list(a, b), list(a))},
		{"- a: 1\n  b: 2", list(of("a", one(1), "b", one(2)))},
		{"- a: 1\n- b: 2", list(of("a", one(1)), of("b", one(2)))},
		{"-   a: 1\n    b: 2\n- a", list(of("a", one(1), "b", one(2)), a)},
		{"-\n  a: 1\n  b: 2", list(of("a", one(1), "b", one(2)))},
		{"- a:\n    b", list(of("a", b))},
		{"- a:\n   b", list(of("a", b))},
		{"- a:\n  b:", list(of("a", null(), "b", null()))},
		{"- a:\n    - b\n  b: a", list(of("a", list(b), "b", a))},
		{"- - a: 1\n    b: 2\n  - a", list(list(of("a", one(1), "b", one(2)), a))},
		{"- [a, b]\n- {a: b}", list(list(a, b), of("a", b))},
		{"- 'a': 1\n  \"b\": 2", list(of("a", one(1), "b", one(2)))},
		{"-a", str("-a")},
		{"-\ta", str("-\ta")},
		{"-  \ta", list(str("\ta"))},
		{"--", str("--")},
		{"-- a", str("-- a")},
	} {
		wantRead(t, c.s, c.v)
		wantRead(t, strings.ReplaceAll(c.s, "\n", "   # x\n\n#\n"), c.v)
	}
}

func TestMaps(t *testing.T) {
	a, b := str("a"), str("b")
	for _, c := range []struct {
		s string
		v api.Value
	}{
		{"a:", of("a", null())},
		{"a:\nb:", of("a", null(), "b", null())},
		{"a:\n  b", of("a", b)},
		{"a:\n b: a", of("a", of("b", a))},
		{"a:\n  b:\n    a\nb: 1", of("a", of("b", a), "b", one(1))},
		{"a:\n      a: 1\n      b: 2\nb:\n  a: 3", of("a", of("a", one(1), "b", one(2)), "b", of("a", one(3)))},
		{"a:\n  - a\n  - b\nb: 1", of("a", list(a, b), "b", one(1))},
		{"a:\n  - a:\n      - b\n    b: []\n  - b", of("a", list(of("a", list(b), "b", list()), b))},
		{"a:\n  b:\n  a: 1", of("a", of("b", null(), "a", one(1)))},
		{"a:\n  b:\nb:\n  a:", of("a", of("b", null()), "b", of("a", null()))},
		{"a:\n  a:\n    a:\n      a\n  b:\n    b\nb: 1", of("a", of("a", of("a", a), "b", b), "b", one(1))},
		{"a: - b", of("a", str("- b"))},
		{"a: -", of("a", str("-"))},
		{"a:b", str("a:b")},
		{"a:\n  [a, b]\nb:\n  {a: b}", of("a", list(a, b), "b", of("a", b))},
		{"a:\n  'b'\nb:\n  \"a\"", of("a", b, "b", a)},
		{"'a':\n  b\n\"b\": a", of("a", b, "b", a)},
		{"  a:\n    b\n  b: 1", of("a", b, "b", one(1))},
		{"a: {a: 1}\nb: {a: 1}", of("a", of("a", one(1)), "b", of("a", one(1)))},
	} {
		wantRead(t, c.s, c.v)
		wantRead(t, strings.ReplaceAll(c.s, "\n", " # x:\n  # y\n   \n"), c.v)
	}
}
