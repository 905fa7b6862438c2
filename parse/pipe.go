package parse

import (
	"strings"

	"mizzen/api"
	"mizzen/scalar"
)

const loose = " \t\n"

// reader reads an action's text from the left.
type reader struct {
	rest string
}

// over says whether nothing more stands there but blanks.
func (r *reader) over() bool {
	r.rest = strings.TrimLeft(r.rest, loose)
	return r.rest == ""
}

// ahead says whether a text stands there.
func (r *reader) ahead(s string) bool {
	return !r.over() && strings.HasPrefix(r.rest, s)
}

// took says whether a text stood there; it is read then.
func (r *reader) took(s string) bool {
	if !r.ahead(s) {
		return false
	}
	r.rest = r.rest[len(s):]
	return true
}

// word reads letters and digits, none if there are none.
func (r *reader) word() string {
	n := lettered(r.rest)
	s := r.rest[:n]
	r.rest = r.rest[n:]
	return s
}

// last reads a pipe that nothing may stand behind.
func (r *reader) last() (Expr, api.Errno) {
	x, e := r.pipe(0)
	if e == api.OK && !r.over() {
		e = api.ErrToken
	}
	if e != api.OK {
		return Expr{}, e
	}
	return x, api.OK
}

// pipe reads commands with | between, in so many brackets.
func (r *reader) pipe(depth int) (Expr, api.Errno) {
	x, e := r.command(depth)
	for e == api.OK && r.took("|") {
		ahead := x
		x, e = r.call(depth)
		x.Args = append(x.Args, ahead)
	}
	return x, e
}

// command reads an operand, or a call.
func (r *reader) command(depth int) (Expr, api.Errno) {
	if r.over() || lettered(r.rest) == 0 {
		return r.operand(depth)
	}
	if _, ok := named(r.rest[:lettered(r.rest)]); ok {
		return r.operand(depth)
	}
	return r.call(depth)
}

// call reads a name, and operands and names alone behind it.
func (r *reader) call(depth int) (Expr, api.Errno) {
	if r.over() || lettered(r.rest) == 0 {
		return Expr{}, api.ErrToken
	}
	x, e := r.operand(depth)
	if e == api.OK && x.Kind != Call {
		e = api.ErrToken
	}
	for e == api.OK && !r.over() && !r.ahead("|") && !r.ahead(")") {
		var arg Expr
		arg, e = r.operand(depth)
		x.Args = append(x.Args, arg)
	}
	return x, e
}

// operand reads an operand, or a name alone.
func (r *reader) operand(depth int) (Expr, api.Errno) {
	if r.over() {
		return Expr{}, api.ErrToken
	}
	switch c := r.rest[0]; {
	case c == '"':
		return r.text()
	case c == '-' || digit(c):
		return r.number()
	case c == '.':
		return r.dot()
	case c == '$':
		return r.variable()
	case c == '(':
		return r.brackets(depth + 1)
	}
	s := r.word()
	if v, ok := named(s); ok {
		return Expr{Value: v}, api.OK
	}
	if !Name(s) {
		return Expr{}, api.ErrToken
	}
	return Expr{Kind: Call, Name: s}, api.OK
}

// named is the value that a word stands for, if it does.
func named(s string) (api.Value, bool) {
	switch s {
	case "true":
		return api.Value{Kind: api.Bool, Bool: true}, true
	case "false":
		return api.Value{Kind: api.Bool}, true
	case "nil":
		return api.Value{}, true
	}
	return api.Value{}, false
}

func (r *reader) text() (Expr, api.Errno) {
	s, rest, e := scalar.Unquote(r.rest)
	r.rest = rest
	return Expr{Value: api.Value{Kind: api.Str, Str: s}}, e
}

func (r *reader) number() (Expr, api.Errno) {
	n := 1
	for n < len(r.rest) && digit(r.rest[n]) {
		n++
	}
	s := r.rest[:n]
	r.rest = r.rest[n:]
	if s == "-" {
		return Expr{}, api.ErrToken
	}
	v, e := scalar.Parse(s)
	return Expr{Value: v}, e
}

// dot reads a dot alone, or steps.
func (r *reader) dot() (Expr, api.Errno) {
	x, e := r.steps(Expr{Kind: Dot})
	if e == api.OK && len(x.Steps) == 0 {
		r.rest = r.rest[1:]
	}
	return x, e
}

// variable reads a variable, and steps behind it.
func (r *reader) variable() (Expr, api.Errno) {
	name, ok := r.dollar()
	if !ok {
		return Expr{}, api.ErrToken
	}
	return r.steps(Expr{Kind: Var, Name: name})
}

// dollar reads a variable's name; false: none stands there.
func (r *reader) dollar() (string, bool) {
	if !r.took("$") {
		return "", false
	}
	s := r.word()
	return s, Name(s)
}

// set reads a variable's name and := behind it; if these don't stand there, nothing is read.
func (r *reader) set() (string, bool) {
	back := r.rest
	if name, ok := r.dollar(); ok && r.took(":=") {
		return name, true
	}
	r.rest = back
	return "", false
}

// each reads the variables of a range, one or two of them, and := behind them; if these don't stand there, nothing is read.
func (r *reader) each() (key, name string) {
	if name, ok := r.set(); ok {
		return "", name
	}
	back := r.rest
	if key, ok := r.dollar(); ok && r.took(",") {
		if name, ok := r.set(); ok {
			return key, name
		}
	}
	r.rest = back
	return "", ""
}

// quotedName reads a name in quotes that nothing may stand behind.
func (r *reader) quotedName() (string, api.Errno) {
	if r.over() || r.mark() {
		return "", api.ErrName
	}
	// Any operand is read here, as a word that is wrong in itself is told ahead of the name that it isn't.
	x, e := r.operand(0)
	switch {
	case e != api.OK:
		return "", e
	case !Name(x.Value.Str):
		return "", api.ErrName
	case !r.over():
		return "", api.ErrToken
	}
	return x.Value.Str, api.OK
}

// mark says whether a bracket, or a word that stands between others, stands there.
func (r *reader) mark() bool {
	return r.ahead("(") || r.ahead(")") || r.ahead("|") || r.ahead(",") || r.ahead(":=")
}

// steps reads the names with a dot ahead, as an expression's steps.
func (r *reader) steps(x Expr) (Expr, api.Errno) {
	for len(r.rest) > 1 && r.rest[0] == '.' && letter(r.rest[1]) {
		r.rest = r.rest[1:]
		s := r.word()
		if !Name(s) {
			return Expr{}, api.ErrToken
		}
		x.Steps = append(x.Steps, s)
	}
	return x, api.OK
}

// brackets reads a pipe in brackets, the last ones of so many in each other.
func (r *reader) brackets(depth int) (Expr, api.Errno) {
	if depth > api.MaxDepth {
		return Expr{}, api.ErrDeep
	}
	r.took("(")
	x, e := r.pipe(depth)
	if e == api.OK && !r.took(")") {
		e = api.ErrToken
	}
	return x, e
}
