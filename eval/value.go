package eval

import (
	"mizzen/api"
	"mizzen/funcs"
	"mizzen/parse"
	"mizzen/path"
	"mizzen/tree"
)

// value is an expression's value at a place.
func (r *runner) value(x parse.Expr, p place) (api.Value, api.Errno) {
	if !r.burn() {
		return api.Value{}, api.ErrFuel
	}
	switch x.Kind {
	case parse.Lit:
		return x.Value, api.OK
	case parse.Dot:
		return at(p.dot, x.Steps), api.OK
	case parse.Var:
		v, ok := p.vars.find(x.Name)
		if !ok {
			return api.Value{}, api.ErrName
		}
		return at(v, x.Steps), api.OK
	case parse.Call:
		return r.call(x, p)
	}
	return api.Value{}, api.OK
}

// at is what a value has at some steps, or nothing.
func at(v api.Value, steps []string) api.Value {
	// path.Get copies all that it answers, which would be the whole value here.
	if len(steps) == 0 {
		return v
	}
	x, _ := path.Get(v, steps...)
	return x
}

// call is what a function answers to its arguments' values. All of these are reckoned ahead of all that may be wrong with the call.
func (r *runner) call(x parse.Expr, p place) (api.Value, api.Errno) {
	var l []api.Value
	for _, arg := range x.Args {
		v, e := r.value(arg, p)
		if e != api.OK {
			return api.Value{}, e
		}
		l = append(l, v)
	}
	if x.Name == "include" {
		return r.include(l)
	}
	return funcs.Call(x.Name, l...)
}

// include is the text that a template comes to, of a value.
func (r *runner) include(l []api.Value) (api.Value, api.Errno) {
	if len(l) != 2 {
		return api.Value{}, api.ErrCall
	}
	if l[0].Kind != api.Str {
		return api.Value{}, api.ErrKind
	}
	body, ok := r.defs[l[0].Str]
	if !ok {
		return api.Value{}, api.ErrName
	}
	if r.includes == api.MaxCalls {
		return api.Value{}, api.ErrDeep
	}
	r.includes++
	s, e := r.text(body, l[1])
	r.includes--
	if e != api.OK {
		return api.Value{}, e
	}
	return tree.Str(s), api.OK
}
