package yaml_test

import (
	"math/rand/v2"
	"strings"
	"testing"

	"mizzen/api"
	"mizzen/sample"
	"mizzen/scalar"
	"mizzen/tree"
	"mizzen/yaml"
)

func TestWhatIsWrittenIsReadAsItWas(t *testing.T) {
	for _, v := range sample.Values() {
		wantRead(t, yaml.Emit(v), v)
	}
	for _, v := range []api.Value{
		sample.Nest(15, one(1)), sample.Maps(15, list()), list(make([]api.Value, 4095)...), str(strings.Repeat("x", 65535)), str(strings.Repeat("\n", 32766)),
		of(strings.Repeat(" ", 256), of("#", str("# a"), "a: b", str("a: b"), "- ", str("- a"), "---", str("---"))),
	} {
		wantRead(t, yaml.Emit(v), v)
	}
}

// A writer writes values in all the ways that there are, by turns that hang on nothing but its seed.
type writer struct{ *rand.Rand }

func (w writer) blanks(most int) string { return strings.Repeat(" ", w.IntN(most+1)) }

func (w writer) often() bool { return w.IntN(3) > 0 }

// quoted is a text in double or single quotes.
func (w writer) quoted(s string) string {
	if w.often() || strings.Contains(s, "\n") {
		return scalar.Quote(s)
	}
	return "'" + strings.ReplaceAll(s, "'", "''") + "'"
}

// plain says whether a text is a word wherever it stands, and one that is read as a text.
func plain(s string) bool {
	v, e := scalar.Parse(s)
	return e == api.OK && v.Kind == api.Str && plainKey(s)
}

// plainKey says whether a text is a word wherever it stands, and no colon is in it.
func plainKey(s string) bool {
	return s != "" && s == strings.Trim(s, " \t") && strings.IndexByte("&*!|>%@#?`-", s[0]) < 0 && !strings.ContainsAny(s, "[]{},:\"'\n") && !strings.Contains(s, " #")
}

func (w writer) key(s string) string {
	if plainKey(s) && w.often() {
		return s
	}
	return w.quoted(s)
}

// word is a value in a line, that is no full list or map.
func (w writer) word(v api.Value) string {
	switch v.Kind {
	case api.Null:
		return []string{"~", "null"}[w.IntN(2)]
	case api.Int:
		s := scalar.Print(v)
		if digits, ok := strings.CutPrefix(s, "-"); ok {
			return "-" + strings.Repeat("0", w.IntN(3)) + digits
		}
		return strings.Repeat("0", w.IntN(3)) + s
	case api.Str:
		if plain(v.Str) && w.often() {
			return v.Str
		}
		return w.quoted(v.Str)
	case api.List:
		return "[" + w.blanks(2) + "]"
	case api.Map:
		return "{" + w.blanks(2) + "}"
	}
	return scalar.Print(v)
}

func full(v api.Value) bool { return len(v.List)+len(v.Map) > 0 }

// inALine is a value in a line.
func (w writer) inALine(v api.Value) string {
	if !full(v) {
		return w.word(v)
	}
	var parts []string
	for _, x := range v.List {
		parts = append(parts, w.blanks(2)+w.inALine(x)+w.blanks(2))
	}
	for _, i := range w.Perm(len(v.Map)) {
		p := v.Map[i]
		behind := w.inALine(p.Value)
		if w.often() || strings.ContainsAny(behind, `"'#`) {
			behind = " " + w.blanks(1) + behind
		}
		parts = append(parts, w.blanks(2)+w.key(p.Key)+w.blanks(1)+":"+behind+w.blanks(2))
	}
	if v.Kind == api.List {
		return "[" + strings.Join(parts, ",") + "]"
	}
	return "{" + strings.Join(parts, ",") + "}"
}

// block are a value's lines, as far in as said.
func (w writer) block(v api.Value, in int) []string {
	lead := strings.Repeat(" ", in)
	if !full(v) || w.IntN(7) == 0 {
		return []string{lead + w.inALine(v)}
	}
	var l []string
	for _, x := range v.List {
		l = append(l, w.behind(lead+"-", x, in, true)...)
	}
	for _, i := range w.Perm(len(v.Map)) {
		l = append(l, w.behind(lead+w.key(v.Map[i].Key)+":", v.Map[i].Value, in, false)...)
	}
	return l
}

// behind are the lines of a value behind a dash, or a colon: in the line, below, or, behind a dash, as a block that begins in the line.
func (w writer) behind(head string, v api.Value, in int, dash bool) []string {
	way := w.IntN(5)
	switch {
	case v.Kind == api.Null && way == 0:
		return []string{head}
	case way == 1 || way == 3 && full(v):
		return append([]string{head}, w.block(v, in+1+w.IntN(4))...)
	case way == 2 && dash:
		head += " " + w.blanks(3)
		l := w.block(v, len(head))
		l[0] = head + strings.TrimLeft(l[0], " ")
		return l
	}
	return []string{head + " " + w.blanks(3) + w.inALine(v)}
}

// text is a value with comments, blanks and empty lines.
func (w writer) text(v api.Value) string {
	var l []string
	for _, s := range w.block(v, w.IntN(3)) {
		for w.IntN(5) == 0 {
			l = append(l, w.blanks(9)+[]string{"", "#", "# a: \"", "#- '\t"}[w.IntN(4)])
		}
		if w.IntN(4) == 0 {
			s += " #" + []string{"", " x", "\"", "'", "#: \t"}[w.IntN(5)]
		}
		l = append(l, s+w.blanks(2))
	}
	return strings.Join(l, "\n") + strings.Repeat("\n", w.IntN(3))
}

// value is some value, at most so deep; of more than four one that has others in it.
func (w writer) value(most int) api.Value {
	kind := w.IntN(9)
	switch {
	case most > 4:
		kind = 5 + w.IntN(4)
	case most == 1 && kind > 4:
		kind = 3
	}
	switch kind {
	case 0:
		return null()
	case 1:
		return tree.Bool(w.often())
	case 2:
		return one(w.Int64()>>w.IntN(64) - w.Int64()>>w.IntN(64))
	case 3, 4:
		return str(w.letters(6))
	case 5, 6:
		var l []api.Value
		for range w.IntN(5) {
			l = append(l, w.value(most-1))
		}
		return list(l...)
	}
	v := of()
	for range w.IntN(5) {
		v = tree.Put(v, strings.Map(func(r rune) rune { return max(r, ' ') }, "k"[w.IntN(2):]+w.letters(3)+"k"), w.value(most-1))
	}
	return v
}

func (w writer) letters(most int) string {
	const letters = "ab1-~:# ,[]{}\"'\\\n\t.&/"
	var s strings.Builder
	for range w.IntN(most + 1) {
		s.WriteByte(letters[w.IntN(len(letters))])
	}
	return s.String()
}

func TestHoweverItIsWritten(t *testing.T) {
	w := writer{rand.New(rand.NewPCG(5, 3))}
	for range 20000 {
		v := w.value(6)
		if e := tree.Check(v); e != api.OK {
			t.Fatalf("no value to write: %v, %d", v, e)
		}
		wantRead(t, yaml.Emit(v), v)
		for range 3 {
			if s := w.text(v); len(s) <= api.MaxText {
				wantRead(t, s, v)
			}
		}
		if t.Failed() {
			return
		}
	}
}

func TestWhatIsReadAndWrittenIsReadAsTheSame(t *testing.T) {
	for _, letters := range []string{"a:- \n", "a-\" \n", "[],a ", "{}:,a", "{\"[:1", "a: #'\n", "-1~:\t\n"} {
		for _, s := range sample.Texts(6, letters) {
			v, e := yaml.Parse(s)
			if e != api.OK {
				wantWrong(t, s, e)
				continue
			}
			wantRead(t, yaml.Emit(v), v)
			if t.Failed() {
				t.Fatalf("%q", s)
			}
		}
	}
}
