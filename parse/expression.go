package parse

import (
	"slices"
	"strings"

	"kiln/api"
	"kiln/lex"
	"kiln/tree"
)

func (r *reader) expression() *tree.Node {
	switch {
	case r.accept("let"):
		kind, name, value := r.binding()
		r.expect("in")
		return tree.New(kind, name, value, r.expression())
	case r.accept("fun"):
		arguments := append([]string{r.name()}, r.names()...)
		r.expect("->")
		return functionOf(arguments, r.expression())
	case r.accept("if"):
		return r.choice()
	}
	return r.sequence()
}

func (r *reader) choice() *tree.Node {
	condition := r.expression()
	r.expect("then")
	yes := r.expression()
	r.expect("else")
	return tree.New(tree.If, "", condition, yes, r.expression())
}

func (r *reader) sequence() *tree.Node {
	first := r.set()
	if r.accept(";") {
		return tree.New(tree.Seq, "", first, r.expression())
	}
	return first
}

func (r *reader) set() *tree.Node {
	cell := r.comparison()
	if r.accept(":=") {
		return tree.New(tree.Set, "", cell, r.comparison())
	}
	return cell
}

// comparison takes one sign at most: a second one is left over, and refused there.
func (r *reader) comparison() *tree.Node {
	left := r.sum()
	if sign := r.peek(); sign == "=" || sign == "<" {
		r.take()
		return tree.New(tree.Calc, sign, left, r.sum())
	}
	return left
}

func (r *reader) sum() *tree.Node { return r.fromTheLeft(r.product, "+", "-") }

func (r *reader) product() *tree.Node { return r.fromTheLeft(r.application, "*", "/") }

// fromTheLeft reads parts with signs of one level between them.
func (r *reader) fromTheLeft(part func() *tree.Node, signs ...string) *tree.Node {
	left := part()
	for slices.Contains(signs, r.peek()) {
		sign := r.take()
		left = tree.New(tree.Calc, sign, left, part())
	}
	return left
}

// application looks for the constructor ahead of the atoms: as an atom, one in brackets would look the same.
func (r *reader) application() *tree.Node {
	if lex.IsConstructor(r.peek()) {
		return tree.New(tree.Con, r.take(), several(r.atom)...)
	}
	left := need(r.atom())
	for _, argument := range several(r.atom) {
		left = tree.New(tree.App, "", left, argument)
	}
	return left
}

// atom gives nil where none begins.
func (r *reader) atom() *tree.Node {
	switch {
	case r.accept("("):
		return r.inBrackets(r.expression)
	case r.accept("!"):
		return tree.New(tree.Fetch, "", need(r.atom()))
	case r.accept("match"):
		return r.match()
	}
	return r.plain()
}

func (r *reader) match() *tree.Node {
	parts := []*tree.Node{r.expression()}
	r.expect("with")
	for r.accept("|") {
		parts = append(parts, r.row())
	}
	r.expect("end")
	if rows := len(parts) - 1; rows < 1 || rows > api.MaxRows {
		panic(noForm{})
	}
	return tree.New(tree.Match, "", parts...)
}

func (r *reader) row() *tree.Node {
	pattern := r.pattern()
	r.expect("->")
	return tree.New(tree.Row, "", pattern, r.expression())
}

func (r *reader) pattern() *tree.Node {
	if lex.IsConstructor(r.peek()) {
		return tree.New(tree.Con, r.take(), several(r.partPattern)...)
	}
	return need(r.partPattern())
}

// partPattern gives nil where none begins.
func (r *reader) partPattern() *tree.Node {
	switch {
	case r.accept("("):
		return r.inBrackets(r.pattern)
	case r.accept("_"):
		return tree.New(tree.Wild, "_")
	}
	return r.plain()
}

// inBrackets reads from behind a `(` up to its `)`.
func (r *reader) inBrackets(read func() *tree.Node) *tree.Node {
	if r.accept(")") {
		return tree.New(tree.Unit, "()")
	}
	node := read()
	r.expect(")")
	return node
}

// plain reads what is one token and may stand in expressions and patterns alike; it gives nil where none is.
func (r *reader) plain() *tree.Node {
	token := r.peek()
	switch {
	case lex.IsName(token):
		return tree.New(tree.Variable, r.take())
	case lex.IsConstructor(token):
		return tree.New(tree.Con, r.take())
	case lex.IsNumber(token):
		return tree.New(tree.Number, withoutNoughts(r.take()))
	case token == "true", token == "false":
		return tree.New(tree.Bool, r.take())
	}
	return nil
}

func withoutNoughts(digits string) string {
	if short := strings.TrimLeft(digits, "0"); short != "" {
		return short
	}
	return "0"
}
