package funcs_test

import (
	"math"
	"slices"
	"strconv"
	"strings"
	"testing"

	"mizzen/api"
	"mizzen/sample"
	"mizzen/tree"
)

func TestList(t *testing.T) {
	gives(t, list(), "list")
	gives(t, list(num(1), str("a"), null(), list(num(2)), of("a", num(1))), "list", num(1), str("a"), null(), list(num(2)), of("a", num(1)))
	for _, v := range sample.Values() {
		gives(t, list(v, v), "list", v, v)
	}
}

func TestDict(t *testing.T) {
	gives(t, of(), "dict")
	gives(t, of("a", num(1)), "dict", str("a"), num(1))
	gives(t, of("a", num(2), "b", num(1), "c d", list(num(3))), "dict", str("b"), num(1), str("a"), num(2), str("c d"), list(num(3)))
	gives(t, of("a", num(3), "b", num(2)), "dict", str("a"), num(1), str("b"), num(2), str("a"), num(3))
	gives(t, of("a", null()), "dict", str("a"), of("x", num(1)), str("a"), list(), str("a"), null())
	for _, v := range sample.Values() {
		gives(t, of("k", v, "l", v), "dict", str("l"), v, str("k"), v)
	}
}

func TestDictOfWrongArguments(t *testing.T) {
	fails(t, api.ErrArg, "dict", str("a"))
	fails(t, api.ErrArg, "dict", str("a"), num(1), str("b"))
	fails(t, api.ErrArg, "dict", num(1))
	fails(t, api.ErrArg, "dict", num(1), num(1), num(1))
	fails(t, api.ErrArg, "dict", str(""), sample.Nest(16, num(1)), str("b"))
	for _, k := range args(null(), yes(), num(1), list(str("a")), of("a", num(1))) {
		fails(t, api.ErrKind, "dict", k, num(1))
		fails(t, api.ErrKind, "dict", str("a"), num(1), k, num(1))
		fails(t, api.ErrKind, "dict", str(""), sample.Nest(15, num(1)), k, num(1))
		fails(t, api.ErrKind, "dict", k, num(1), str("a"), sample.Nest(15, num(1)))
	}
}

// spread are keys and values by turns, so many of them, by falling keys.
func spread(n int) []api.Value {
	var l []api.Value
	for i := n; i > 0; i-- {
		l = append(l, str("k"+strconv.Itoa(10000+i)), num(int64(i)))
	}
	return l
}

func TestWhatIsMadeMayBe(t *testing.T) {
	nested, deep := sample.Nest(14, num(1)), sample.Nest(15, num(1))
	gives(t, list(nested), "list", nested)
	gives(t, of("a", nested), "dict", str("a"), nested)
	fails(t, api.ErrDeep, "list", deep)
	fails(t, api.ErrDeep, "dict", str("a"), deep)
	fails(t, api.ErrDeep, "list", append(make([]api.Value, 5000), deep)...)
	gives(t, of("a", num(1)), "dict", str("a"), deep, str("a"), num(1))

	gives(t, list(make([]api.Value, 4095)...), "list", make([]api.Value, 4095)...)
	fails(t, api.ErrSize, "list", make([]api.Value, 4096)...)
	fails(t, api.ErrSize, "list", list(make([]api.Value, 4094)...), num(1))
	fails(t, api.ErrSize, "list", append(args(str("\x00")), make([]api.Value, 4096)...)...)
	if full := spread(4095); len(full) != 8190 {
		t.Error("no full map")
	} else {
		gives(t, tree.Map(pairsOf(full)...), "dict", full...)
	}
	fails(t, api.ErrSize, "dict", spread(4096)...)
	gives(t, of("a", num(1)), "dict", slices.Repeat(args(str("a"), num(1)), 5000)...)

	for _, s := range []string{"\x00", "é", "\x7f", "\r", "\xff"} {
		fails(t, api.ErrForm, "list", num(1), str(s))
		fails(t, api.ErrForm, "list", of("a", list(str(s))))
		fails(t, api.ErrForm, "dict", str("a"), str(s))
		fails(t, api.ErrKey, "dict", str(s), num(1))
	}
	for _, s := range []string{"", "\t", "a\nb", strings.Repeat("k", 257)} {
		fails(t, api.ErrKey, "dict", str("a"), num(1), str(s), num(1))
	}
	fails(t, api.ErrForm, "dict", str("b\n"), num(1), str("a"), str("\x00"))
	fails(t, api.ErrKey, "dict", str("\n"), num(1), str("a"), str("\x00"))
	long := strings.Repeat("k", 256)
	gives(t, of(long, num(1)), "dict", str(long), num(1))
	gives(t, list(str(strings.Repeat("x", 65536))), "list", str(strings.Repeat("x", 65536)))
}

// pairsOf are the pairs of keys and values by turns.
func pairsOf(l []api.Value) []api.Pair {
	var out []api.Pair
	for i := 0; i < len(l); i += 2 {
		out = append(out, api.Pair{Key: l[i].Str, Value: l[i+1]})
	}
	return out
}

func TestLen(t *testing.T) {
	for _, c := range []struct {
		v api.Value
		n int64
	}{
		{str(""), 0}, {str("abc"), 3}, {str("a\n"), 2}, {str("é"), 2}, {str("\xff\x00"), 2}, {str(strings.Repeat("x", 65536)), 65536},
		{list(), 0}, {list(null()), 1}, {list(list(num(1), num(2)), num(3)), 2}, {list(make([]api.Value, 4095)...), 4095},
		{of(), 0}, {of("a", list(num(1), num(2)), "b", num(1)), 2},
	} {
		gives(t, num(c.n), "len", c.v)
	}
	for _, v := range args(null(), yes(), no(), num(0), num(123)) {
		fails(t, api.ErrKind, "len", v)
	}
}

func TestGet(t *testing.T) {
	m := of("a", num(1), "b", list(num(2)), "c", null(), " ", of("x", num(3)))
	for _, c := range []struct {
		k string
		v api.Value
	}{
		{"a", num(1)}, {"b", list(num(2))}, {"c", null()}, {" ", of("x", num(3))}, {"d", null()}, {"", null()}, {"A", null()}, {"\xff", null()}, {"x", null()},
	} {
		gives(t, c.v, "get", m, str(c.k))
		gives(t, null(), "get", of(), str(c.k))
	}
	l := list(str("a"), null(), list(num(1), num(2)))
	for _, c := range []struct {
		k int64
		v api.Value
	}{
		{0, str("a")}, {1, null()}, {2, list(num(1), num(2))}, {3, null()}, {-1, null()}, {-3, null()}, {1 << 32, null()}, {1<<32 + 2, null()}, {math.MaxInt64, null()}, {math.MinInt64, null()},
	} {
		gives(t, c.v, "get", l, num(c.k))
		gives(t, null(), "get", list(), num(c.k))
	}
}

func TestGetOfOtherKinds(t *testing.T) {
	m, l := of("0", num(1), "true", num(1)), list(num(1))
	for _, k := range args(null(), yes(), num(0), list(str("0")), of("a", num(1))) {
		fails(t, api.ErrKind, "get", m, k)
	}
	for _, k := range args(null(), no(), str("0"), str(""), list(num(0)), of()) {
		fails(t, api.ErrKind, "get", l, k)
	}
	for _, v := range args(null(), yes(), num(0), str("abc"), str("")) {
		for _, k := range args(str("a"), num(0), null()) {
			fails(t, api.ErrKind, "get", v, k)
		}
	}
}

func TestKeys(t *testing.T) {
	gives(t, list(), "keys", of())
	gives(t, list(str("a"), str("b"), str("c")), "keys", of("c", num(1), "a", of("x", num(1)), "b", null()))
	full := spread(4095)
	var wanted []api.Value
	for i := len(full) - 2; i >= 0; i -= 2 {
		wanted = append(wanted, full[i])
	}
	gives(t, list(wanted...), "keys", tree.Map(pairsOf(full)...))
	for _, v := range args(null(), yes(), num(1), str("a"), list(), list(of("a", num(1)))) {
		fails(t, api.ErrKind, "keys", v)
	}
}

func TestHas(t *testing.T) {
	l := list(num(1), str("a"), null(), list(num(2)), of("a", num(1)), str("\xff"), no())
	for _, v := range l.List {
		gives(t, yes(), "has", v, l)
		gives(t, no(), "has", v, list())
		gives(t, no(), "has", v, list(l))
	}
	for _, v := range args(num(2), str("1"), str(""), yes(), list(), list(num(3)), of(), of("a", num(2)), of("b", num(1)), str("\xfe")) {
		gives(t, no(), "has", v, l)
	}
	for _, v := range args(null(), yes(), num(1), str("abc"), of("a", num(1))) {
		fails(t, api.ErrKind, "has", str("a"), v)
		fails(t, api.ErrKind, "has", l, v)
	}
}
