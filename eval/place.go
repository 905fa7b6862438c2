package eval

import (
	"strings"

	"mizzen/api"
)

// place is where nodes are run: what they see there, and where their text is laid.
type place struct {
	dot  api.Value
	vars *variables
	laid *strings.Builder
}

// inside is a place in this one, with a dot and variables of its own.
func (p place) inside(dot api.Value) place {
	p.dot = dot
	p.vars = &variables{around: p.vars}
	return p
}

// lay lays a text behind what is laid, if not too much is laid then.
func (p place) lay(s string) api.Errno {
	if p.laid.Len()+len(s) > api.MaxText {
		return api.ErrSize
	}
	p.laid.WriteString(s)
	return api.OK
}

// variables are those of a place, and of the places around it.
type variables struct {
	own    map[string]api.Value
	around *variables
}

// set makes a variable of this place, whatever has its name around.
func (v *variables) set(name string, x api.Value) {
	// Most places have none, so the map is made for the first one.
	if v.own == nil {
		v.own = map[string]api.Value{}
	}
	v.own[name] = x
}

// find is the innermost variable of a name; false: there is none.
func (v *variables) find(name string) (api.Value, bool) {
	for ; v != nil; v = v.around {
		if x, ok := v.own[name]; ok {
			return x, true
		}
	}
	return api.Value{}, false
}
