package yaml

import (
	"strings"

	"mizzen/api"
	"mizzen/scalar"
)

// A line has a text, and stands so many blanks in.
type line struct {
	in   int
	text string
}

// lines are a text's lines in which something stands, without comments, nor blanks at the end.
func lines(s string) ([]line, api.Errno) {
	var l []line
	for whole := range strings.SplitSeq(s, "\n") {
		said := strings.TrimRight(uncommented(whole), " ")
		text := strings.TrimLeft(said, " ")
		if strings.HasPrefix(text, "\t") {
			return nil, api.ErrIndent
		}
		if text != "" {
			l = append(l, line{in: len(said) - len(text), text: text})
		}
	}
	return l, api.OK
}

// uncommented is a line up to its comment.
func uncommented(s string) string {
	for i := 0; i < len(s); i++ {
		switch {
		case s[i] == '#' && begins(s, i, " "):
			return s[:i]
		case quoted(s[i:]) && begins(s, i, " [{,"):
			_, rest, e := scalar.Unquote(s[i:])
			if e != api.OK {
				// Never closed, so what is left of the line stands in these quotes.
				return s
			}
			i = len(s) - len(rest) - 1
		}
	}
	return s
}

// begins says whether a place is the first one of a line, or has one of these bytes ahead.
func begins(s string, i int, ahead string) bool {
	return i == 0 || strings.IndexByte(ahead, s[i-1]) >= 0
}

// quoted says whether a text begins with a quote.
func quoted(s string) bool {
	return strings.HasPrefix(s, `"`) || strings.HasPrefix(s, "'")
}
