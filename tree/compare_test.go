package tree_test

import (
	"cmp"
	"math"
	"testing"

	"mizzen/api"
	"mizzen/sample"
	"mizzen/tree"
)

// rising are values, each below the next one.
func rising() []api.Value {
	l, m := rawList, rawMap
	return []api.Value{
		tree.Null(),
		tree.Bool(false), tree.Bool(true),
		tree.Int(math.MinInt64), tree.Int(-2), tree.Int(-1), tree.Int(0), tree.Int(1), tree.Int(10), tree.Int(math.MaxInt64),
		tree.Str(""), tree.Str("\x00"), tree.Str("\n"), tree.Str("10"), tree.Str("9"), tree.Str("B"), tree.Str("a"), tree.Str("a\x00"),
		tree.Str("aa"), tree.Str("b"), tree.Str("\x80"), tree.Str("\xc3\xa9"), tree.Str("\xff"),
		l(), l(tree.Null()), l(tree.Null(), tree.Null()), l(tree.Bool(true)), l(one(1)), l(one(1), one(1)), l(one(1), one(2)), l(one(2)),
		l(tree.Str("a")), l(l()), l(l(one(1))), l(l(one(1)), one(0)), l(m()),
		m(), m(pair("a", tree.Null())), m(pair("a", one(1))), m(pair("a", one(1)), pair("b", one(0))), m(pair("a", one(1)), pair("c", tree.Null())),
		m(pair("a", one(2))), m(pair("a", m())), m(pair("a", m(pair("x", one(1))))), m(pair("a", m(pair("x", one(1)))), pair("b", one(1))),
		m(pair("a", m(pair("x", one(2))))), m(pair("aa", tree.Null())), m(pair("b", tree.Null())),
	}
}

func TestCompare(t *testing.T) {
	l := rising()
	for i, a := range l {
		for j, b := range l {
			if got := tree.Compare(a, b); got != cmp.Compare(i, j) {
				t.Errorf("Compare(%s, %s) = %d", dump(a), dump(b), got)
			}
			if got := tree.Same(a, b); got != (i == j) {
				t.Errorf("Same(%s, %s) = %v", dump(a), dump(b), got)
			}
		}
	}
}

func TestCompareHoldsAllValuesApart(t *testing.T) {
	l := sample.Values()
	for _, a := range l {
		for _, b := range l {
			c := tree.Compare(a, b)
			if (c == 0) != (dump(a) == dump(b)) || tree.Same(a, b) != (c == 0) {
				t.Fatalf("Compare(%s, %s) = %d", dump(a), dump(b), c)
			}
			if c != -tree.Compare(b, a) || c < -1 || c > 1 {
				t.Fatalf("Compare(%s, %s) = %d, and back %d", dump(a), dump(b), c, tree.Compare(b, a))
			}
		}
	}
}
