package yaml_test

import (
	"slices"
	"strings"
	"testing"

	"mizzen/api"
	"mizzen/sample"
	"mizzen/tree"
	"mizzen/yaml"
)

func TestAnyTextsAreTaken(t *testing.T) {
	for _, s := range []string{
		strings.Repeat("[", 65536), strings.Repeat("{a:", 21845), strings.Repeat("{\"a\": ", 10000), strings.Repeat("- ", 32768), strings.Repeat("-\n", 32768),
		strings.Repeat("[", 32768) + strings.Repeat("]", 32768), strings.Repeat("{a:", 16384) + strings.Repeat("}", 16384),
		strings.Repeat("{a:", 13000) + "1" + strings.Repeat("}", 13000), strings.Repeat("- ", 32000) + "a: 1",
		strings.Repeat("\"", 65536), strings.Repeat("'", 65535), strings.Repeat(" '", 32768), strings.Repeat(" \"\\x", 16384), strings.Repeat(" '' #", 13000),
		strings.Repeat(":", 65536), strings.Repeat(": ", 32768), strings.Repeat(" ", 65535) + "a", strings.Repeat("a ", 32768), strings.Repeat("\xff", 65536), strings.Repeat("\x00\n", 32768),
		strings.Repeat("a", 1<<20), strings.Repeat("\t", 1<<20), "\r\n\v\f\u0085\u2028",
	} {
		v, e := yaml.Parse(s)
		if e != api.OK && !tree.Same(v, null()) || tree.Check(v) != api.OK {
			t.Errorf("Parse(%.40q): %d, and a value", s, e)
		}
		if got := strings.Join(yaml.Docs(s), "\n---\n"); got != s {
			t.Errorf("Docs(%.40q) are something else", s)
		}
	}
	wantWrong(t, strings.Repeat("[", 32768)+strings.Repeat("]", 32768), api.ErrDeep)
	wantWrong(t, strings.Repeat("{a:", 13000)+"1"+strings.Repeat("}", 13000), api.ErrDeep)
	wantWrong(t, strings.Repeat("- ", 32000)+"a: 1", api.ErrDeep)
	wantWrong(t, strings.Repeat("- ", 32000)+"a: 1\n a", api.ErrIndent)
	wantWrong(t, strings.Repeat("-\n", 32768), api.ErrSize)
}

func TestManyLinesInEachOtherAreRead(t *testing.T) {
	var deep, shallow strings.Builder
	for i := range 350 {
		deep.WriteString(strings.Repeat(" ", i) + "a:\n")
	}
	wantWrong(t, deep.String(), api.ErrDeep)
	for i := range 15 {
		shallow.WriteString(strings.Repeat(" ", 300*i) + "a:\n")
	}
	wantRead(t, shallow.String(), sample.Maps(15, null()))
}

func TestManyKeysAreRead(t *testing.T) {
	var lines, braces strings.Builder
	var wanted []any
	const letters = "abcdefghijklmnop"
	for i := range 4095 {
		i = i * 1001 % 4096
		key := string([]byte{letters[i/256], letters[i/16%16], letters[i%16]})
		lines.WriteString(key + ":\n")
		braces.WriteString("," + key + ":~")
		wanted = append(wanted, key, null())
	}
	wantRead(t, lines.String(), of(wanted...))
	wantRead(t, "{"+braces.String()[1:]+"}", of(wanted...))
	wantWrong(t, lines.String()+wanted[0].(string)+":", api.ErrTwice)
	wantWrong(t, "{"+braces.String()[1:]+braces.String()[:4]+":1}", api.ErrTwice)
	wantWrong(t, lines.String()+"zzz:", api.ErrSize)
}

func TestWhatIsAnsweredIsNewMemory(t *testing.T) {
	const s = "a: [1, {b: [], c: {}}]\nd:\n  - - 1\n    - 2\n  - e: 3\n    f: [[4], [5]]\n"
	v, _ := yaml.Parse(s)
	if !sample.Apart(tree.Clone(v)) || !sample.Apart(v) {
		t.Error("one list twice")
	}
	v, _ = yaml.Parse(s)
	was := yaml.Emit(v)
	other, _ := yaml.Parse(s)
	sample.Spoil(other)
	if now := yaml.Emit(v); now != was {
		t.Errorf("was %q, is %q", was, now)
	}
	docs := yaml.Docs("a\n---\nb")
	docs[0], docs[1] = "c", "d"
	if again := yaml.Docs("a\n---\nb"); !slices.Equal(again, []string{"a", "b"}) {
		t.Errorf("%q", again)
	}
}
