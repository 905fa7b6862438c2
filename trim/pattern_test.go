package trim_test

import (
	"math/rand/v2"
	"regexp"
	"strings"
	"testing"

	"mizzen/api"
	"mizzen/sample"
	"mizzen/trim"
)

// By a pattern an action goes on for as few bytes and texts in quotes as may be.
var (
	inBraces = regexp.MustCompile(`(?s)^\{\{((?:"(?:\\.|[^"\\])*"|[^"])*?)\}\}`)
	marked   = regexp.MustCompile(`(?s)^(-$|- )?(.*?)( -)?$`)
	remark   = regexp.MustCompile(`(?s)^/\*.*\*/$`)
	endLoose = regexp.MustCompile(`[ \t\n]*$`)
	begLoose = regexp.MustCompile(`^[ \t\n]*`)
)

// byPattern are a template's tokens, found by patterns: from the left text by text, each blank of which is lost as the actions around it say.
func byPattern(s string) ([]trim.Token, api.Errno) {
	var l []trim.Token
	at, lost := 0, false
	for {
		n := strings.Index(s[at:], "{{")
		here := s[at:]
		if n >= 0 {
			here = here[:n]
		}
		from := at
		at += len(here)
		if lost {
			from += len(begLoose.FindString(here))
		}
		if n < 0 {
			return behind(l, trim.Token{S: s[from:], At: from}), api.OK
		}
		m := inBraces.FindStringSubmatch(s[at:])
		if m == nil {
			return nil, api.ErrClose
		}
		parts := marked.FindStringSubmatch(m[1])
		here = s[from:at]
		if parts[1] != "" {
			here = endLoose.ReplaceAllString(here, "")
		}
		l = behind(l, trim.Token{S: here, At: from})
		if in := strings.Trim(parts[2], " \t\n"); !remark.MatchString(in) {
			l = append(l, trim.Token{Action: true, S: in, At: at})
		}
		at += len(m[0])
		lost = parts[3] != ""
	}
}

func behind(l []trim.Token, text trim.Token) []trim.Token {
	if text.S == "" {
		return l
	}
	return append(l, text)
}

// wantAsByPattern tells, if a template's tokens are others by the patterns, or don't stand where they say.
func wantAsByPattern(t *testing.T, s string) {
	t.Helper()
	want, wrong := byPattern(s)
	if wrong != api.OK {
		wantWrong(t, s, wrong)
		return
	}
	wantSplit(t, s, want)
	for _, x := range want {
		if x.Action && !strings.HasPrefix(s[x.At:], "{{") || !x.Action && !strings.HasPrefix(s[x.At:], x.S) {
			t.Errorf("in %q %v stands elsewhere", s, x)
		}
	}
}

func TestAsByPattern(t *testing.T) {
	for _, s := range sample.Texts(5, "- \"\\}a") {
		wantAsByPattern(t, "a {{"+s+"}} b")
		wantAsByPattern(t, " {{"+s+`"}}`)
	}
	for _, s := range sample.Texts(6, "{}- ") {
		wantAsByPattern(t, s)
	}
	for _, s := range sample.Texts(6, "/* ") {
		wantAsByPattern(t, "{{"+s+"}}")
	}
	parts := []string{"{{", "}}", "{", "}", "- ", " -", "-", " ", "\n", "\t", `"`, `\`, "a", "/*", "*/", "é", "{{- ", " -}}", "{{ x }}"}
	r := rand.New(rand.NewPCG(6, 1))
	for range 50000 {
		var s strings.Builder
		for range r.IntN(14) {
			s.WriteString(parts[r.IntN(len(parts))])
		}
		wantAsByPattern(t, s.String())
	}
}
