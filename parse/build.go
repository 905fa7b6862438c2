package parse

import (
	"mizzen/api"
	"mizzen/trim"
)

// builder makes nodes of a template's tokens, from the left.
type builder struct {
	tokens []trim.Token
}

// stop is what nodes end at: an end or an else, with what stands behind it, or no word where the template ends.
type stop struct {
	word   string
	behind reader
}

// nodes are the nodes that stand in so many blocks, up to what these end at.
func (b *builder) nodes(depth int) ([]Node, stop, api.Errno) {
	var l []Node
	for len(b.tokens) > 0 {
		t := b.tokens[0]
		b.tokens = b.tokens[1:]
		if !t.Action {
			l = append(l, Node{Kind: Text, Text: t.S})
			continue
		}
		r := reader{t.S}
		word := r.word()
		if word == "end" || word == "else" {
			return l, stop{word, r}, api.OK
		}
		n, e := b.action(t.S, depth)
		if e != api.OK {
			return nil, stop{}, e
		}
		l = append(l, n)
	}
	return l, stop{}, api.OK
}

// action is the node of an action that stands in so many blocks.
func (b *builder) action(s string, depth int) (Node, api.Errno) {
	r := reader{s}
	switch r.word() {
	case "if":
		return b.choice(If, r, depth+1)
	case "with":
		return b.choice(With, r, depth+1)
	case "range":
		return b.choice(Range, r, depth+1)
	case "define":
		return b.define(r, depth+1)
	}
	r = reader{s}
	n := Node{Kind: Out}
	if name, ok := r.set(); ok {
		n = Node{Kind: Let, Name: name}
	}
	var e api.Errno
	n.Expr, e = r.last()
	return n, e
}

// choice is a block that may have an else, the last one of so many in each other.
func (b *builder) choice(kind int, r reader, depth int) (Node, api.Errno) {
	if depth > api.MaxDepth {
		return Node{}, api.ErrDeep
	}
	n := Node{Kind: kind}
	if kind == Range {
		n.Key, n.Name = r.each()
	}
	var e api.Errno
	if n.Expr, e = r.last(); e != api.OK {
		return Node{}, e
	}
	var at stop
	if n.Body, at, e = b.nodes(depth); e != api.OK {
		return Node{}, e
	}
	if at.word != "else" {
		return n, at.ends()
	}
	n.Else, e = b.otherwise(kind, at.behind, depth)
	return n, e
}

// otherwise are the nodes behind a block's else, up to the block's end.
func (b *builder) otherwise(kind int, r reader, depth int) ([]Node, api.Errno) {
	if r.over() {
		l, at, e := b.nodes(depth)
		if e == api.OK {
			e = at.ends()
		}
		return l, e
	}
	if kind != If || r.word() != "if" {
		return nil, api.ErrClose
	}
	// Both ifs have one end, which the inner one reads.
	n, e := b.choice(If, r, depth+1)
	return []Node{n}, e
}

// define is a block with a name, the last one of so many in each other.
func (b *builder) define(r reader, depth int) (Node, api.Errno) {
	if depth > api.MaxDepth {
		return Node{}, api.ErrDeep
	}
	if depth > 1 {
		return Node{}, api.ErrName
	}
	name, e := r.quotedName()
	if e != api.OK {
		return Node{}, e
	}
	l, at, e := b.nodes(depth)
	if e == api.OK {
		e = at.ends()
	}
	return Node{Kind: Define, Name: name, Body: l}, e
}

// ends is the error of a place where a block must end.
func (s stop) ends() api.Errno {
	if s.word != "end" || !s.behind.over() {
		return api.ErrClose
	}
	return api.OK
}
