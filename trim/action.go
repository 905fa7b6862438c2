package trim

import "strings"

// action is what is left of what stands between braces, and which of the texts around it lose their blanks.
type action struct {
	s                       string
	trimsAhead, trimsBehind bool
}

// read is the action of what stands between braces.
func read(s string) action {
	var a action
	if s == "-" {
		return action{trimsAhead: true}
	}
	s, a.trimsAhead = strings.CutPrefix(s, "- ")
	s, a.trimsBehind = strings.CutSuffix(s, " -")
	a.s = strings.Trim(s, loose)
	return a
}

// comment says whether an action is only for readers.
func (a action) comment() bool {
	// One star can't both open a comment and close it.
	return len(a.s) >= len("/**/") && strings.HasPrefix(a.s, "/*") && strings.HasSuffix(a.s, "*/")
}
