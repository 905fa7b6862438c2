package funcs

import (
	"strings"

	"mizzen/api"
	"mizzen/scalar"
	"mizzen/tree"
	"mizzen/yaml"
)

// maxIndent is the most blanks that are laid ahead of a line.
const maxIndent = 64

// changed is a text as a function of one text answers it.
func changed(name, s string) string {
	switch name {
	case "upper":
		return otherCase(s, 'a', 'z')
	case "lower":
		return otherCase(s, 'A', 'Z')
	case "trim":
		return strings.Trim(s, " \t\n")
	case "quote":
		return scalar.Quote(s)
	}
	return s
}

// otherCase is a text with the letters from one to another in the other case. It goes by bytes, as a text may have any.
func otherCase(s string, from, to byte) string {
	l := []byte(s)
	for i, c := range l {
		if from <= c && c <= to {
			l[i] = c ^ ('a' ^ 'A')
		}
	}
	return string(l)
}

// glued is the texts of values with another one between.
func glued(l []api.Value, between string) (api.Value, api.Errno) {
	var s strings.Builder
	for i, v := range l {
		if i > 0 {
			s.WriteString(between)
		}
		s.WriteString(scalar.Text(v))
		// A list may have one long text many times: what is too long already isn't laid to its end.
		if s.Len() > api.MaxText {
			return api.Value{}, api.ErrSize
		}
	}
	return tree.Str(s.String()), api.OK
}

func joined(between, list api.Value) (api.Value, api.Errno) {
	if list.Kind != api.List {
		return api.Value{}, api.ErrKind
	}
	return glued(list.List, scalar.Text(between))
}

// written is a value in the one way, without its last line feed.
func written(v api.Value) (api.Value, api.Errno) {
	// A value may have one long text many times, or stand very deep: what comes to too much isn't written at all.
	if atLeast(v, 0) > api.MaxText {
		return api.Value{}, api.ErrSize
	}
	return tree.Str(strings.TrimSuffix(yaml.Emit(v), "\n")), api.OK
}

// atLeast is a number of bytes that a value so far in isn't written with fewer than: those of its texts and keys, and the blanks ahead.
func atLeast(v api.Value, in int) int {
	n := len(v.Str)
	for _, x := range v.List {
		n += in + atLeast(x, in+2)
	}
	for _, p := range v.Map {
		n += in + len(p.Key) + atLeast(p.Value, in+2)
	}
	return n
}

// indented is a value's text with blanks ahead of each line, and of nindent a line feed ahead of all.
func indented(name string, blanks, v api.Value) (api.Value, api.Errno) {
	if blanks.Kind != api.Int {
		return api.Value{}, api.ErrKind
	}
	if blanks.Int < 0 || blanks.Int > maxIndent {
		return api.Value{}, api.ErrArg
	}
	s := scalar.Text(v)
	if len(s) > api.MaxText {
		return api.Value{}, api.ErrSize
	}
	lead := strings.Repeat(" ", int(blanks.Int))
	s = lead + strings.ReplaceAll(s, "\n", "\n"+lead)
	if name == "nindent" {
		s = "\n" + s
	}
	return tree.Str(s), api.OK
}
