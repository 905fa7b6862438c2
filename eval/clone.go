package eval

import (
	"slices"

	"mizzen/parse"
	"mizzen/tree"
)

func cloneNodes(l []parse.Node) []parse.Node {
	var out []parse.Node
	for _, n := range l {
		n.Expr = cloneExpr(n.Expr)
		n.Body = cloneNodes(n.Body)
		n.Else = cloneNodes(n.Else)
		out = append(out, n)
	}
	return out
}

func cloneExpr(x parse.Expr) parse.Expr {
	var args []parse.Expr
	for _, arg := range x.Args {
		args = append(args, cloneExpr(arg))
	}
	x.Value = tree.Clone(x.Value)
	x.Steps = slices.Clone(x.Steps)
	x.Args = args
	return x
}
