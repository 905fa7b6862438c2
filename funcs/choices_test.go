package funcs_test

import (
	"math"
	"slices"
	"testing"

	"mizzen/api"
	"mizzen/funcs"
	"mizzen/sample"
	"mizzen/tree"
)

// strange are values that have texts of any bytes.
func strange() []api.Value {
	return args(str("\xff\x00"), str("é"), list(str("\x80")), of("a", str("\r")))
}

func truth(b bool) api.Value { return tree.Bool(b) }

func TestComparing(t *testing.T) {
	l := slices.Concat(sample.Plain(), sample.Values()[:60], strange())
	for _, a := range l {
		for _, b := range l {
			c := tree.Compare(a, b)
			gives(t, truth(c == 0), "eq", a, b)
			gives(t, truth(c != 0), "ne", a, b)
			gives(t, truth(c < 0), "lt", a, b)
		}
	}
	gives(t, yes(), "lt", num(-1), num(math.MaxInt64))
	gives(t, no(), "lt", num(1), num(1))
	gives(t, no(), "lt", num(2), num(1))
	gives(t, yes(), "lt", num(2), str("1"))
	gives(t, no(), "eq", num(1), str("1"))
	gives(t, yes(), "ne", null(), no())
	gives(t, yes(), "eq", of("a", list(num(1))), of("a", list(num(1))))
}

// Each value with whether it counts as true.
func truths() map[bool][]api.Value {
	return map[bool][]api.Value{
		false: args(null(), no(), num(0), str(""), list(), of()),
		true:  args(yes(), num(1), num(-1), str("a"), str("false"), str("0"), str(" "), str("\x00"), list(null()), list(list()), of("a", null())),
	}
}

func TestNot(t *testing.T) {
	for b, l := range truths() {
		for _, v := range l {
			gives(t, truth(!b), "not", v)
		}
	}
}

func TestAndOr(t *testing.T) {
	blank, good := truths()[false], truths()[true]
	for _, v := range slices.Concat(blank, good) {
		gives(t, v, "and", v)
		gives(t, v, "or", v)
	}
	for _, a := range blank {
		for _, b := range good {
			for _, x := range slices.Concat(blank, good) {
				gives(t, a, "and", b, b, a, x)
				gives(t, a, "and", a, x)
				gives(t, x, "and", b, b, x)
				gives(t, b, "or", a, a, b, x)
				gives(t, b, "or", b, x)
				gives(t, x, "or", a, a, x)
			}
		}
	}
	long := slices.Repeat(args(num(0)), 5000)
	gives(t, num(7), "or", append(long, num(7))...)
	gives(t, num(0), "and", append(long, num(7))...)
}

func TestDefaultAndTernary(t *testing.T) {
	gives(t, num(3), "default", num(3), null())
	for b, l := range truths() {
		for _, v := range l {
			for _, d := range slices.Concat(truths()[true], truths()[false]) {
				if b {
					gives(t, v, "default", d, v)
					gives(t, d, "ternary", d, str("other"), v)
				} else {
					gives(t, d, "default", d, v)
					gives(t, d, "ternary", str("other"), d, v)
				}
			}
		}
	}
}

func TestRequired(t *testing.T) {
	for _, s := range args(str("message"), str(""), null(), num(1), list()) {
		for _, v := range slices.Concat(truths()[true], strange(), args(no(), num(0), list(), of())) {
			gives(t, v, "required", s, v)
		}
		fails(t, api.ErrArg, "required", s, null())
		fails(t, api.ErrArg, "required", s, str(""))
	}
}

// What is handed on is handed on whole, whatever it is.
func TestChoicesOfAllValues(t *testing.T) {
	for _, v := range slices.Concat(sample.Values(), strange(), args(sample.Nest(15, num(1)), tree.List(make([]api.Value, 4095)...))) {
		gives(t, v, "and", num(1), v)
		gives(t, v, "or", num(0), v)
		gives(t, v, "default", v, null())
		gives(t, v, "ternary", v, null(), yes())
		gives(t, v, "ternary", null(), v, no())
	}
	if v, e := funcs.Call("default", str("x"), tree.Map()); e != api.OK || v.Str != "x" {
		t.Errorf("default of an empty map: %s, %d", dump(v), e)
	}
}
