package yaml

import (
	"strings"

	"mizzen/api"
	"mizzen/scalar"
	"mizzen/tree"
)

// noWord are the bytes with which no word begins.
const noWord = "[]{},&*!|>%@#?:\"'`"

// word says whether a text is a word.
func word(s string) bool {
	return s != "" && strings.IndexByte(noWord, s[0]) < 0 && colon(s) < 0
}

// colon is the place of the first colon at a text's end, or with a blank behind; -1, if there is none.
func colon(s string) int {
	i := strings.Index(s, ": ")
	if i < 0 && strings.HasSuffix(s, ":") {
		i = len(s) - 1
	}
	return i
}

// pair reads a line's key, and what stands behind its colon.
func pair(s string) (key, behind string, e api.Errno) {
	if quoted(s) {
		key, behind, e = scalar.Unquote(s)
		if e == api.OK && colon(behind) != 0 {
			e = api.ErrForm
		}
		return key, strings.TrimPrefix(behind, ":"), e
	}
	i := colon(s)
	if i < 0 || !word(s[:i]) {
		return "", "", api.ErrForm
	}
	return s[:i], s[i+1:], api.OK
}

// whole is the value that a line's rest is.
func whole(s string) (api.Value, api.Errno) {
	v, rest, e := value(s, "")
	if e == api.OK && rest != "" {
		e = api.ErrForm
	}
	return v, e
}

// value reads the value at the beginning of a line's rest, and what stands behind it. A word ends ahead of the first one of the bytes in ends.
func value(s, ends string) (v api.Value, rest string, e api.Errno) {
	switch {
	case quoted(s):
		text, rest, e := scalar.Unquote(s)
		return tree.Str(text), rest, e
	case strings.HasPrefix(s, "["):
		return brackets(s[1:])
	case strings.HasPrefix(s, "{"):
		return braces(s[1:])
	}
	text := s
	if i := strings.IndexAny(s, ends); i >= 0 {
		text, rest = s[:i], s[i:]
	}
	text = strings.TrimRight(text, " ")
	if !word(text) {
		return v, "", api.ErrForm
	}
	v, e = scalar.Parse(text)
	return v, rest, e
}

// brackets reads a list, from behind its bracket on.
func brackets(s string) (api.Value, string, api.Errno) {
	var l []api.Value
	rest, e := parts(s, "]", func(s string) (string, api.Errno) {
		v, rest, e := value(s, ",]")
		l = append(l, v)
		return rest, e
	})
	return api.Value{Kind: api.List, List: l}, rest, e
}

// braces reads a map, from behind its brace on.
func braces(s string) (api.Value, string, api.Errno) {
	var m mapping
	rest, e := parts(s, "}", func(s string) (string, api.Errno) {
		key, behind, e := keyInBraces(s)
		if e != api.OK {
			return "", e
		}
		if m.has(key) {
			return "", api.ErrTwice
		}
		v, rest, e := value(behind, ",}")
		m.put(key, v)
		return rest, e
	})
	return m.value(), rest, e
}

// parts reads what stands between commas, up to the byte that closes: each part by read, which answers what stands behind it.
func parts(s, end string, read func(s string) (string, api.Errno)) (rest string, e api.Errno) {
	s = strings.TrimLeft(s, " ")
	if rest, closed := strings.CutPrefix(s, end); closed {
		return rest, api.OK
	}
	for {
		rest, e := read(s)
		if e != api.OK {
			return "", e
		}
		rest = strings.TrimLeft(rest, " ")
		if rest, closed := strings.CutPrefix(rest, end); closed {
			return rest, api.OK
		}
		behind, more := strings.CutPrefix(rest, ",")
		if !more {
			return "", api.ErrForm
		}
		s = strings.TrimLeft(behind, " ")
	}
}

// keyInBraces reads a key, and what stands behind its colon and the blanks there.
func keyInBraces(s string) (key, behind string, e api.Errno) {
	ok := false
	if quoted(s) {
		key, behind, e = scalar.Unquote(s)
		behind, ok = strings.CutPrefix(strings.TrimLeft(behind, " "), ":")
	} else {
		key, behind, ok = strings.Cut(s, ":")
		key = strings.TrimRight(key, " ")
		ok = ok && word(key) && !strings.ContainsAny(key, ",]}")
	}
	if e == api.OK && !ok {
		e = api.ErrForm
	}
	return key, strings.TrimLeft(behind, " "), e
}
