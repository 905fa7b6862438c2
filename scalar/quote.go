package scalar

import (
	"strings"

	"mizzen/api"
)

// Quote is a text in double quotes.
func Quote(s string) string {
	l := make([]byte, 0, len(s)+2)
	l = append(l, '"')
	for i := range len(s) {
		l = quoted(l, s[i])
	}
	return string(append(l, '"'))
}

// quoted lays a byte as it stands in double quotes behind others.
func quoted(l []byte, c byte) []byte {
	switch c {
	case '\n', '\t':
		c = name(c)
		fallthrough
	case '"', '\\':
		l = append(l, '\\')
		fallthrough
	default:
		l = append(l, c)
	}
	return l
}

// name is the letter by which a line feed, or a tab, is told behind a backslash.
func name(c byte) byte {
	if c == '\n' {
		return 'n'
	}
	return 't'
}

// Unquote is the text in quotes, double or single ones, that a text begins with, and what stands behind it.
func Unquote(s string) (text, rest string, e api.Errno) {
	closed := false
	switch {
	case strings.HasPrefix(s, `"`):
		text, rest, closed = double(s[1:])
	case strings.HasPrefix(s, "'"):
		text, rest, closed = single(s[1:])
	}
	if !closed {
		return "", "", api.ErrQuote
	}
	return text, rest, api.OK
}

// double reads up to the double quote that closes, and what stands behind it; false: none does, or what stands ahead of it may not.
func double(s string) (text, rest string, closed bool) {
	var l []byte
	for i := 0; i < len(s); i++ {
		c := s[i]
		switch c {
		case '"':
			return string(l), s[i+1:], true
		case '\n', '\t':
			return "", "", false
		case '\\':
			i++
			named, ok := meant(s[i:])
			if !ok {
				return "", "", false
			}
			c = named
		}
		l = append(l, c)
	}
	return "", "", false
}

// meant is the byte that is told by the first one behind a backslash.
func meant(behind string) (byte, bool) {
	if behind == "" {
		return 0, false
	}
	switch c := behind[0]; c {
	case 'n':
		return '\n', true
	case 't':
		return '\t', true
	case '"', '\\':
		return c, true
	}
	return 0, false
}

// single reads up to the single quote that closes, and what stands behind it; false: none does.
func single(s string) (text, rest string, closed bool) {
	var l strings.Builder
	for {
		part, behind, found := strings.Cut(s, "'")
		if !found {
			return "", "", false
		}
		l.WriteString(part)
		if !strings.HasPrefix(behind, "'") {
			return l.String(), behind, true
		}
		l.WriteByte('\'')
		s = behind[1:]
	}
}
