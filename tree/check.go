package tree

import (
	"slices"
	"strings"

	"mizzen/api"
)

// Text says whether a text may be: no bytes but printable ones, tabs, line feeds.
func Text(s string) bool {
	if len(s) > api.MaxText {
		return false
	}
	for i := range len(s) {
		c := s[i]
		if (c < ' ' || c > '~') && c != '\t' && c != '\n' {
			return false
		}
	}
	return true
}

// Key says whether a text may be a key.
func Key(s string) bool {
	return s != "" && len(s) <= api.MaxKey && Text(s) && !strings.ContainsAny(s, "\t\n")
}

// Truth says whether a value counts as true: it isn't nothing, false, 0, or empty.
func Truth(v api.Value) bool {
	return isKind(v.Kind) && parts(v)[v.Kind]
}

// Check says what is wrong with a value.
func Check(v api.Value) api.Errno {
	// The depth comes first, so that what walks the value below needs no bound of its own.
	if deeper(v, api.MaxDepth) {
		return api.ErrDeep
	}
	if Size(v) > api.MaxNodes {
		return api.ErrSize
	}
	return wrong(v)
}

// deeper says whether a value's depth is above most. It stops at the first place that is, however far down that goes on.
func deeper(v api.Value, most int) bool {
	if most == 0 {
		return true
	}
	return slices.ContainsFunc(v.List, func(x api.Value) bool { return deeper(x, most-1) }) ||
		slices.ContainsFunc(v.Map, func(p api.Pair) bool { return deeper(p.Value, most-1) })
}

// wrong is the first fault of a value and its parts, but for depth and size.
func wrong(v api.Value) api.Errno {
	if !pure(v) {
		return api.ErrKind
	}
	if !Text(v.Str) {
		return api.ErrForm
	}
	for _, x := range v.List {
		if e := wrong(x); e != api.OK {
			return e
		}
	}
	ahead := "" // no key may be empty, so the first one is above it
	for _, p := range v.Map {
		if e := wrongPair(ahead, p); e != api.OK {
			return e
		}
		ahead = p.Key
	}
	return api.OK
}

func wrongPair(ahead string, p api.Pair) api.Errno {
	if !Key(p.Key) {
		return api.ErrKey
	}
	if p.Key <= ahead {
		return api.ErrTwice
	}
	return wrong(p.Value)
}

// pure says whether a value has a kind, and nothing that its kind hasn't.
func pure(v api.Value) bool {
	if !isKind(v.Kind) {
		return false
	}
	for kind, has := range parts(v) {
		if has && kind != v.Kind {
			return false
		}
	}
	return true
}

func isKind(kind int) bool { return kind >= api.Null && kind <= api.Map }

// parts says, kind by kind, whether a value has something that is such a kind's, whatever its own is.
func parts(v api.Value) [api.Map + 1]bool {
	return [api.Map + 1]bool{
		api.Bool: v.Bool,
		api.Int:  v.Int != 0,
		api.Str:  v.Str != "",
		api.List: len(v.List) > 0,
		api.Map:  len(v.Map) > 0,
	}
}
