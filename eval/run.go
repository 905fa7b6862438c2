package eval

import (
	"strings"

	"mizzen/api"
	"mizzen/parse"
	"mizzen/scalar"
	"mizzen/tree"
)

// runner runs nodes, as long as there is fuel. Values are not copied on the way: nothing here changes one, and only texts are handed out.
type runner struct {
	defs     Defs
	fuel     int
	includes int // how many are running
}

// burn takes one of the fuel; false: there is none.
func (r *runner) burn() bool {
	if r.fuel == 0 {
		return false
	}
	r.fuel--
	return true
}

// text is what nodes come to that see no variables but their own.
func (r *runner) text(l []parse.Node, dot api.Value) (string, api.Errno) {
	var laid strings.Builder
	if e := r.nodes(l, place{dot: dot, vars: &variables{}, laid: &laid}); e != api.OK {
		return "", e
	}
	return laid.String(), api.OK
}

// nodes runs nodes, one by one.
func (r *runner) nodes(l []parse.Node, p place) api.Errno {
	for _, n := range l {
		if e := r.node(n, p); e != api.OK {
			return e
		}
	}
	return api.OK
}

func (r *runner) node(n parse.Node, p place) api.Errno {
	if !r.burn() {
		return api.ErrFuel
	}
	switch n.Kind {
	case parse.Text:
		return p.lay(n.Text)
	case parse.Out, parse.If, parse.With, parse.Range, parse.Let:
		v, e := r.value(n.Expr, p)
		if e != api.OK {
			return e
		}
		return r.action(n, v, p)
	}
	return api.OK
}

// action does what a node does with its expression's value.
func (r *runner) action(n parse.Node, v api.Value, p place) api.Errno {
	switch n.Kind {
	case parse.Out:
		return p.lay(scalar.Text(v))
	case parse.If:
		return r.choice(n, tree.Truth(v), p.dot, p)
	case parse.With:
		return r.choice(n, tree.Truth(v), v, p)
	case parse.Range:
		return r.each(n, v, p)
	}
	p.vars.set(n.Name, v)
	return api.OK
}

// choice runs a node's body with a dot, or else its else.
func (r *runner) choice(n parse.Node, yes bool, dot api.Value, p place) api.Errno {
	if !yes {
		return r.nodes(n.Else, p.inside(p.dot))
	}
	return r.nodes(n.Body, p.inside(dot))
}

// each runs a range's body for each value in a list or a map, or its else, if there is none.
func (r *runner) each(n parse.Node, v api.Value, p place) api.Errno {
	if v.Kind != api.Null && v.Kind != api.List && v.Kind != api.Map {
		return api.ErrKind
	}
	if !tree.Truth(v) {
		return r.nodes(n.Else, p.inside(p.dot))
	}
	for i, x := range v.List {
		if e := r.turn(n, tree.Int(int64(i)), x, p); e != api.OK {
			return e
		}
	}
	for _, pair := range v.Map {
		if e := r.turn(n, tree.Str(pair.Key), pair.Value, p); e != api.OK {
			return e
		}
	}
	return api.OK
}

// turn runs a range's body for one value, and its place or key.
func (r *runner) turn(n parse.Node, key, v api.Value, p place) api.Errno {
	// A body without nodes takes no fuel, so no fuel bounds how often its variables would be made.
	if len(n.Body) == 0 {
		return api.OK
	}
	in := p.inside(v)
	if n.Key != "" {
		in.vars.set(n.Key, key)
	}
	if n.Name != "" {
		in.vars.set(n.Name, v) // behind the key: if both have one name it is the value
	}
	return r.nodes(n.Body, in)
}
