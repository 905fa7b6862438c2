package funcs_test

import (
	"math"
	"math/big"
	"strings"
	"testing"

	"mizzen/api"
)

// edges are whole numbers at, and around, the places at which what two of them come to leaves the type.
func edges() []int64 {
	var l []int64
	for _, at := range []int64{0, 1 << 31, 1 << 32, 3037000499, math.MaxInt64 / 3, math.MaxInt64 / 2, 1 << 62} {
		for d := int64(-2); d <= 2; d++ {
			l = append(l, at+d, -at-d)
		}
	}
	return append(l, math.MaxInt64, math.MaxInt64-1, math.MinInt64, math.MinInt64+1, 3, -3, 7, -7)
}

func TestReckoning(t *testing.T) {
	ways := map[string]func(z, a, b *big.Int) *big.Int{"add": (*big.Int).Add, "sub": (*big.Int).Sub, "mul": (*big.Int).Mul}
	for name, way := range ways {
		for _, a := range edges() {
			for _, b := range edges() {
				n := way(new(big.Int), big.NewInt(a), big.NewInt(b))
				if n.IsInt64() {
					gives(t, num(n.Int64()), name, num(a), num(b))
				} else {
					fails(t, api.ErrOver, name, num(a), num(b))
				}
			}
		}
	}
	gives(t, num(5), "add", num(2), num(3))
	gives(t, num(-1), "sub", num(2), num(3))
	gives(t, num(-6), "mul", num(2), num(-3))
	fails(t, api.ErrOver, "mul", num(math.MinInt64), num(-1))
	fails(t, api.ErrOver, "mul", num(-1), num(math.MinInt64))
	fails(t, api.ErrOver, "sub", num(0), num(math.MinInt64))
	gives(t, num(math.MinInt64), "sub", num(-1), num(math.MaxInt64))
}

func TestReckoningWithNoNumbers(t *testing.T) {
	for _, name := range []string{"add", "sub", "mul"} {
		for _, v := range []api.Value{null(), yes(), str("1"), str(""), list(num(1)), of("a", num(1))} {
			fails(t, api.ErrKind, name, v, num(1))
			fails(t, api.ErrKind, name, num(1), v)
			fails(t, api.ErrKind, name, v, v)
		}
	}
}

func TestInt(t *testing.T) {
	for _, n := range edges() {
		gives(t, num(n), "int", num(n))
		gives(t, num(n), "int", str(big.NewInt(n).String()))
	}
	for _, c := range []struct {
		s string
		n int64
	}{
		{"0", 0}, {"-0", 0}, {"007", 7}, {"-007", -7}, {strings.Repeat("0", 60000) + "12", 12},
		{"9223372036854775807", math.MaxInt64}, {"-9223372036854775808", math.MinInt64}, {"-0009223372036854775808", math.MinInt64},
	} {
		gives(t, num(c.n), "int", str(c.s))
	}
	for _, s := range []string{"9223372036854775808", "-9223372036854775809", "18446744073709551616", "18446744073709551617", strings.Repeat("9", 65536), "-" + strings.Repeat("9", 65535)} {
		fails(t, api.ErrOver, "int", str(s))
	}
	for _, s := range []string{"", "-", "--1", "+1", " 1", "1 ", "1\n", "1.0", "1e3", "0x10", "1_000", "a", "1a", "null", "~", "true", "false", "\"1\"", "'1'", "٣", "1\x00", "\xff"} {
		fails(t, api.ErrKind, "int", str(s))
	}
	for _, v := range []api.Value{null(), yes(), no(), list(), list(num(1)), of(), of("a", num(1))} {
		fails(t, api.ErrKind, "int", v)
	}
}
