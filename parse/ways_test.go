package parse_test

import (
	"math/rand/v2"
	"strconv"
	"strings"
	"testing"

	"mizzen/api"
	"mizzen/parse"
	"mizzen/scalar"
	"mizzen/tree"
)

// A writer makes trees, and writes them in all the ways that there are, by turns that hang on nothing but its seed.
type writer struct{ *rand.Rand }

func pick[T any](w writer, l ...T) T { return l[w.IntN(len(l))] }

func (w writer) name() string {
	return pick(w, "a", "B", "_", "x1", "if", "end", "else", "range", "define", "with", "trues", "nil_", strings.Repeat("n", 1+w.IntN(api.MaxKey)))
}

func (w writer) variable() string { return pick(w, w.name(), "true", "false", "nil") }

func (w writer) steps() []string {
	var l []string
	for range w.IntN(4) {
		l = append(l, w.variable())
	}
	return l
}

func (w writer) letters() string {
	var s strings.Builder
	for range w.IntN(6) {
		s.WriteString(pick(w, "a", "b", " ", "\n", "\t", "{", "}", "-", "é", "\xff", "/*"))
	}
	return s.String()
}

// expr is some expression, at most so deep.
func (w writer) expr(most int) parse.Expr {
	switch kind := w.IntN(8); {
	case kind == 0:
		return lit(pick(w, tree.Null(), tree.Bool(true), tree.Bool(false), tree.Int(w.Int64()>>w.IntN(64)), tree.Int(-w.Int64()>>w.IntN(64))))
	case kind == 1:
		return str(w.letters() + pick(w, "", `"`, `\`, `\"`, "}}", "{{"))
	case kind == 2:
		return dot(w.steps()...)
	case kind == 3:
		return variable(w.variable(), w.steps()...)
	}
	x := call(w.name())
	for most > 1 && w.IntN(3) > 0 {
		x.Args = append(x.Args, w.expr(most-1))
	}
	return x
}

// blanks are some, at least so many.
func (w writer) blanks(least int) string {
	var s strings.Builder
	for s.Len() < least || w.IntN(3) == 0 {
		s.WriteString(pick(w, " ", " ", "\t", "\n"))
	}
	return s.String()
}

// word is an operand that no brackets need to stand around.
func (w writer) word(x parse.Expr) string {
	steps := strings.Join(append([]string{""}, x.Steps...), ".")
	switch {
	case x.Kind == parse.Call:
		return x.Name
	case x.Kind == parse.Var:
		return "$" + x.Name + steps
	case x.Kind == parse.Dot && steps == "":
		return "."
	case x.Kind == parse.Dot:
		return steps
	case x.Value.Kind == api.Null:
		return "nil"
	case x.Value.Kind == api.Str:
		return scalar.Quote(x.Value.Str)
	case x.Value.Kind == api.Int:
		digits, minus := strings.CutPrefix(strconv.FormatInt(x.Value.Int, 10), "-")
		return map[bool]string{true: "-"}[minus] + strings.Repeat("0", w.IntN(3)) + digits
	}
	return scalar.Print(x.Value)
}

// operand is an expression as an operand.
func (w writer) operand(x parse.Expr) string {
	if len(x.Args) > 0 || w.IntN(9) == 0 {
		return "(" + w.blanks(0) + w.pipe(x) + w.blanks(0) + ")"
	}
	return w.word(x)
}

// behind is an operand behind what is written; a blank stands between, where the two would be one word, and else perhaps.
func (w writer) behind(s, operand string) string {
	least := 1
	if strings.ContainsAny(s[len(s)-1:], `)"`) || strings.ContainsAny(operand[:1], `("$`) {
		least = 0
	}
	return s + w.blanks(least) + operand
}

// pipe is an expression as a pipe: a call's last argument may stand ahead of it.
func (w writer) pipe(x parse.Expr) string {
	switch {
	case x.Kind != parse.Call && w.IntN(9) > 0:
		return w.word(x)
	case x.Kind != parse.Call:
		return w.operand(x)
	}
	head, args := "", x.Args
	if n := len(args); n > 0 && w.IntN(2) == 0 {
		head, args = w.pipe(args[n-1])+w.blanks(0)+"|"+w.blanks(0), args[:n-1]
	}
	s := x.Name
	for _, arg := range args {
		s = w.behind(s, w.operand(arg))
	}
	return head + s
}

// nodes are some nodes, at most so deep, no two texts behind each other.
func (w writer) nodes(most int, top bool) []parse.Node {
	var l []parse.Node
	for range w.IntN(4) {
		n := w.node(most, top)
		if len(l) > 0 && n.Kind == parse.Text && l[len(l)-1].Kind == parse.Text {
			continue
		}
		l = append(l, n)
	}
	return l
}

func (w writer) node(most int, top bool) parse.Node {
	kind := w.IntN(9)
	if most == 1 && kind > 3 {
		kind = 0
	}
	switch kind {
	case 0, 1:
		return text(pick(w, "a", " ", "\n") + strings.ReplaceAll(w.letters(), "{", "{ ") + pick(w, "", "b"))
	case 2:
		return out(w.expr(3))
	case 3:
		return let(w.variable(), w.expr(3))
	case 4, 5:
		return choice(parse.If, w.expr(3), w.nodes(most-1, false), w.nodes(most-1, false))
	case 6:
		return choice(parse.With, w.expr(3), w.nodes(most-1, false), w.nodes(most-1, false))
	case 7:
		n := each("", "", w.expr(3), w.nodes(most-1, false), w.nodes(most-1, false))
		if w.IntN(3) > 0 {
			n.Name = w.variable()
			n.Key = pick(w, "", w.variable())
		}
		return n
	}
	if !top {
		return text("a")
	}
	return define(pick(w, w.name(), "true"), w.nodes(most-1, false)...)
}

// action is an action of a text.
func (w writer) action(s string) string {
	return "{{" + w.blanks(0) + s + w.blanks(0) + "}}"
}

// headed is a pipe behind an action's word; a blank stands between, where the two would be one word, and else perhaps.
func (w writer) headed(word, pipe string) string {
	least := 0
	if parse.Name("x" + pipe[:1]) {
		least = 1
	}
	return word + w.blanks(least) + pipe
}

// template is the nodes' text.
func (w writer) template(l []parse.Node) string {
	var s strings.Builder
	for _, n := range l {
		s.WriteString(w.one(n))
		if w.IntN(5) == 0 && n.Kind != parse.Text {
			s.WriteString(w.action("/*" + w.blanks(0) + "end \n*/"))
		}
	}
	return s.String()
}

func (w writer) one(n parse.Node) string {
	switch n.Kind {
	case parse.Text:
		return n.Text
	case parse.Out:
		return w.action(w.shown(n.Expr))
	case parse.Let:
		return w.action("$" + n.Name + w.blanks(0) + ":=" + w.blanks(0) + w.pipe(n.Expr))
	case parse.If:
		return w.choice(w.headed("if", w.pipe(n.Expr)), n)
	case parse.With:
		return w.choice(w.headed("with", w.pipe(n.Expr)), n)
	case parse.Range:
		return w.choice(w.rangeHead(n), n)
	}
	return w.action("define"+w.blanks(0)+scalar.Quote(n.Name)) + w.template(n.Body) + w.action("end")
}

// shown is a pipe that begins with no word of another action.
func (w writer) shown(x parse.Expr) string {
	s := w.pipe(x)
	for _, word := range []string{"if", "end", "else", "range", "define", "with"} {
		if rest, ok := strings.CutPrefix(s, word); ok && !parse.Name("x"+rest[:min(1, len(rest))]) || s == word {
			return "(" + s + ")"
		}
	}
	return s
}

func (w writer) rangeHead(n parse.Node) string {
	if n.Name == "" {
		return w.headed("range", w.pipe(n.Expr))
	}
	s := "range" + w.blanks(0)
	if n.Key != "" {
		s += "$" + n.Key + w.blanks(0) + "," + w.blanks(0)
	}
	return s + "$" + n.Name + w.blanks(0) + ":=" + w.blanks(0) + w.pipe(n.Expr)
}

// choice is a block that may have an else; an if alone in an if's else may share its end.
func (w writer) choice(head string, n parse.Node) string {
	s := w.action(head) + w.template(n.Body)
	if n.Kind == parse.If && len(n.Else) == 1 && n.Else[0].Kind == parse.If && w.IntN(2) == 0 {
		inner := n.Else[0]
		return s + w.choice("else"+w.blanks(1)+w.headed("if", w.pipe(inner.Expr)), inner)
	}
	if len(n.Else) > 0 || w.IntN(4) == 0 {
		s += w.action("else") + w.template(n.Else)
	}
	return s + w.action("end")
}

func TestHoweverItIsWritten(t *testing.T) {
	w := writer{rand.New(rand.NewPCG(7, 3))}
	for range 4000 {
		x := w.expr(4)
		wantPipe(t, w.pipe(x), x)
		wantPipe(t, w.operand(x), x)
		l := w.nodes(5, true)
		for range 3 {
			wantNodes(t, w.template(l), l)
		}
	}
}

func TestAnElseIfIsAnIfInAnElse(t *testing.T) {
	w := writer{rand.New(rand.NewPCG(7, 2))}
	for range 1000 {
		l := w.nodes(3, false)
		for range 1 + w.IntN(8) {
			l = nodes(choice(parse.If, w.expr(2), w.nodes(2, false), l))
		}
		wantNodes(t, w.template(l), l)
	}
}
