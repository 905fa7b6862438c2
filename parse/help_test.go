package parse_test

import (
	"fmt"
	"reflect"
	"testing"

	"mizzen/api"
	"mizzen/parse"
	"mizzen/tree"
)

func lit(v api.Value) parse.Expr { return parse.Expr{Kind: parse.Lit, Value: v} }

func num(n int64) parse.Expr { return lit(tree.Int(n)) }

func str(s string) parse.Expr { return lit(tree.Str(s)) }

func dot(steps ...string) parse.Expr { return parse.Expr{Kind: parse.Dot, Steps: steps} }

func variable(name string, steps ...string) parse.Expr {
	return parse.Expr{Kind: parse.Var, Name: name, Steps: steps}
}

func call(name string, args ...parse.Expr) parse.Expr {
	return parse.Expr{Kind: parse.Call, Name: name, Args: args}
}

func text(s string) parse.Node { return parse.Node{Kind: parse.Text, Text: s} }

func out(x parse.Expr) parse.Node { return parse.Node{Kind: parse.Out, Expr: x} }

func let(name string, x parse.Expr) parse.Node {
	return parse.Node{Kind: parse.Let, Name: name, Expr: x}
}

func define(name string, body ...parse.Node) parse.Node {
	return parse.Node{Kind: parse.Define, Name: name, Body: body}
}

func choice(kind int, x parse.Expr, body, other []parse.Node) parse.Node {
	return parse.Node{Kind: kind, Expr: x, Body: body, Else: other}
}

func each(key, name string, x parse.Expr, body, other []parse.Node) parse.Node {
	return parse.Node{Kind: parse.Range, Key: key, Name: name, Expr: x, Body: body, Else: other}
}

func nodes(l ...parse.Node) []parse.Node { return l }

// told are nodes, or an expression, as a text in which nil and empty lists are one.
func told(x any) string { return fmt.Sprintf("%+v", x) }

// wantPipe tells, if a text isn't read as an expression.
func wantPipe(t *testing.T, s string, want parse.Expr) {
	t.Helper()
	if got, e := parse.Pipe(s); e != api.OK || told(got) != told(want) {
		t.Errorf("Pipe(%.200q) = %.300s, %d, want %.300s", s, told(got), e, told(want))
	}
}

// wantNoPipe tells, if something else is wrong with a text.
func wantNoPipe(t *testing.T, s string, wrong api.Errno) {
	t.Helper()
	if got, e := parse.Pipe(s); e != wrong || !reflect.DeepEqual(got, parse.Expr{}) {
		t.Errorf("Pipe(%.200q) = %.200s, %d, want error %d", s, told(got), e, wrong)
	}
}

// wantNodes tells, if a template isn't read as nodes.
func wantNodes(t *testing.T, s string, want []parse.Node) {
	t.Helper()
	if got, e := parse.Parse(s); e != api.OK || told(got) != told(want) {
		t.Errorf("Parse(%.200q) = %.300s, %d, want %.300s", s, told(got), e, told(want))
	}
}

// wantWrong tells, if something else is wrong with a template.
func wantWrong(t *testing.T, s string, wrong api.Errno) {
	t.Helper()
	if got, e := parse.Parse(s); e != wrong || len(got) > 0 {
		t.Errorf("Parse(%.200q) = %.200s, %d, want error %d", s, told(got), e, wrong)
	}
}
