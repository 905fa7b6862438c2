package funcs_test

import (
	"strings"
	"testing"

	"mizzen/api"
)

func xs(n int) api.Value { return str(strings.Repeat("x", n)) }

// A text of MaxText bytes may be answered, one more may not.
func TestHowLongATextMayBe(t *testing.T) {
	const most = api.MaxText
	for _, name := range []string{"toString", "trim", "lower"} {
		gives(t, xs(most), name, xs(most))
	}
	gives(t, str(strings.Repeat("X", most)), "upper", xs(most))
	for _, c := range []struct {
		name string
		l    func(n int) []api.Value // what makes a text of so many bytes
	}{
		{"quote", func(n int) []api.Value { return args(xs(n - 2)) }},
		{"quote", func(n int) []api.Value {
			return args(str(strings.Repeat("\n", n/2-1-n%2) + strings.Repeat("x", 3*(n%2))))
		}},
		{"print", func(n int) []api.Value { return args(xs(n-9), str("y"), num(-1234567)) }},
		{"print", func(n int) []api.Value { return args(xs(n)) }},
		{"join", func(n int) []api.Value { return args(str(", "), list(xs(3), xs(n-7), null())) }},
		{"join", func(n int) []api.Value { return args(xs(n/2), list(str(""), str(""), xs(n%2))) }},
		{"join", func(n int) []api.Value { return args(str(", "), list(xs(n))) }},
		{"toYaml", func(n int) []api.Value { return args(xs(n)) }},
		{"toYaml", func(n int) []api.Value { return args(str(strings.Repeat(" ", n-2))) }},
		{"toYaml", func(n int) []api.Value { return args(of("a", list(num(1), xs(n-13)))) }},
		{"toYaml", func(n int) []api.Value { return args(list(xs(n/2), xs(n-n/2-5))) }},
		{"indent", func(n int) []api.Value { return args(num(64), xs(n-64)) }},
		{"indent", func(n int) []api.Value { return args(num(10), str(strings.Repeat("x", n-21)+"\n")) }},
		{"indent", func(n int) []api.Value { return args(num(0), xs(n)) }},
		{"nindent", func(n int) []api.Value { return args(num(64), xs(n-65)) }},
		{"nindent", func(n int) []api.Value { return args(num(0), xs(n-1)) }},
	} {
		wantLong(t, c.name, c.l)
	}
}

func wantLong(t *testing.T, name string, l func(n int) []api.Value) {
	t.Helper()
	for _, n := range []int{api.MaxText - 1, api.MaxText, api.MaxText + 1, api.MaxText + 2} {
		handed := l(n)
		long := n > api.MaxText
		if len(handed[0].Str) > api.MaxText {
			continue // no text that may be handed in
		}
		got, e := called(name, handed)
		if long && e != api.ErrSize || !long && (e != api.OK || len(got) != n) {
			t.Errorf("%s of %s: %d bytes of %d, error %d", name, dump(handed...), len(got), n, e)
		}
		if long {
			fails(t, api.ErrSize, name, handed...)
		}
	}
}

func TestMuchTooLongTexts(t *testing.T) {
	long := xs(api.MaxText)
	var l []api.Value
	for range 4095 {
		l = append(l, long)
	}
	fails(t, api.ErrSize, "print", l...)
	fails(t, api.ErrSize, "join", long, list(l...))
	fails(t, api.ErrSize, "toYaml", list(l...))
	fails(t, api.ErrSize, "quote", str(strings.Repeat("\\", api.MaxText)))
	fails(t, api.ErrSize, "indent", num(64), str(strings.Repeat("\n", api.MaxText)))
	fails(t, api.ErrSize, "nindent", num(64), str(strings.Repeat("\n", api.MaxText)))
	fails(t, api.ErrSize, "nindent", num(0), long)
	fails(t, api.ErrKind, "join", long, long)
	fails(t, api.ErrArg, "indent", num(65), str(strings.Repeat("\n", api.MaxText)))
	gives(t, long, "print", long, null(), str(""))
	gives(t, num(api.MaxText), "len", long)
}

// A short value's text, indented deep down, may be too long, as keys may be.
func TestToYamlOfManyKeys(t *testing.T) {
	var l []any
	for i := range 200 {
		l = append(l, strings.Repeat("k", 250)+string([]byte{byte('a' + i/26), byte('a' + i%26)}), of("a", num(1)))
	}
	gives(t, num(200), "len", of(l...))
	if s, e := called("toYaml", args(of(l[:2*100]...))); e != api.OK || len(s) != 100*(252+2+7)-1 {
		t.Errorf("%d bytes, error %d", len(s), e)
	}
	fails(t, api.ErrSize, "toYaml", of("a", of(l...), "b", of(l...)))
}
