package funcs

import (
	"math"

	"mizzen/api"
	"mizzen/scalar"
	"mizzen/tree"
)

// reckoned is what two whole numbers come to.
func reckoned(name string, a, b api.Value) (api.Value, api.Errno) {
	if a.Kind != api.Int || b.Kind != api.Int {
		return api.Value{}, api.ErrKind
	}
	n, ok := outcome(name, a.Int, b.Int)
	if !ok {
		return api.Value{}, api.ErrOver
	}
	return tree.Int(n), api.OK
}

func outcome(name string, a, b int64) (int64, bool) {
	switch name {
	case "add":
		return plus(a, b)
	case "sub":
		return minus(a, b)
	}
	return times(a, b)
}

// plus is the sum of two numbers; false: it is too far out. Like minus and times it looks ahead, so that nothing wraps round.
func plus(a, b int64) (int64, bool) {
	if b < 0 && a < math.MinInt64-b || b > 0 && a > math.MaxInt64-b {
		return 0, false
	}
	return a + b, true
}

func minus(a, b int64) (int64, bool) {
	if b < 0 && a > math.MaxInt64+b || b > 0 && a < math.MinInt64+b {
		return 0, false
	}
	return a - b, true
}

func times(a, b int64) (int64, bool) {
	ok := true
	switch {
	case a > 0:
		ok = math.MinInt64/a <= b && b <= math.MaxInt64/a
	case a == -1: // the least number by it would wrap round
		return minus(0, b)
	case a < 0:
		ok = math.MaxInt64/a <= b && b <= math.MinInt64/a
	}
	if !ok {
		return 0, false
	}
	return a * b, true
}

// number is a whole number itself, or the one that a value's text is.
func number(v api.Value) (api.Value, api.Errno) {
	if v.Kind == api.Int {
		return tree.Int(v.Int), api.OK
	}
	n, e := scalar.Parse(scalar.Text(v))
	if e == api.OK && n.Kind != api.Int {
		e = api.ErrKind
	}
	return n, e
}
