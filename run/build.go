package run

import (
	"strconv"

	"kiln/names"
	"kiln/tree"
)

// builder makes code out of trees.
type builder struct {
	step   func()           // is called ahead of each application
	places names.Table[int] // of the variables in scope: how many there are around each
	around int              // how many variables there are around what is built
}

// program is built as if each declaration stood around all that follow.
func (b *builder) program(declarations []*tree.Node) code {
	if len(declarations) == 0 {
		return always(unit{})
	}
	first := declarations[0]
	behind := func() code { return b.program(declarations[1:]) }
	switch first.Kind {
	case tree.Type:
		return behind()
	case tree.Do:
		return sequence(b.expression(first.Parts[0]), behind())
	}
	return b.binding(first, behind)
}

// binding is a `let` or a `rec` with what has its name in scope.
func (b *builder) binding(n *tree.Node, body func() code) code {
	bound := func() code { return b.expression(n.Parts[0]) }
	if n.Kind == tree.Rec {
		return rec(b.within(bound, n.Text), b.within(body, n.Text))
	}
	return let(bound(), b.within(body, n.Text))
}

// within builds what has these variables in scope.
func (b *builder) within(build func() code, variables ...string) code {
	for _, name := range variables {
		defer b.places.Bind(variableKey(name), b.around)()
		b.around++
	}
	built := build()
	b.around -= len(variables)
	return built
}

func variableKey(name string) names.Key { return names.Key{Space: names.Variables, Name: name} }

func (b *builder) expression(n *tree.Node) code {
	switch n.Kind {
	case tree.Number, tree.Bool, tree.Unit:
		return always(plainValue(n))
	case tree.Variable:
		return variable(b.around - 1 - b.places[variableKey(n.Text)])
	case tree.Fun:
		return fun(b.within(func() code { return b.expression(n.Parts[0]) }, n.Text))
	case tree.Let, tree.Rec:
		return b.binding(n, func() code { return b.expression(n.Parts[1]) })
	case tree.Match:
		return match(b.expression(n.Parts[0]), b.rows(n.Only(tree.Row))...)
	}
	return b.composed(n)
}

// composed builds the forms whose parts all stand in the same scope.
func (b *builder) composed(n *tree.Node) code {
	var parts []code
	for _, part := range n.Parts {
		parts = append(parts, b.expression(part))
	}
	switch n.Kind {
	case tree.Con:
		return con(n.Text, parts...)
	case tree.App:
		return apply(b.step, parts[0], parts[1])
	case tree.If:
		return choice(parts[0], parts[1], parts[2])
	case tree.Seq:
		return sequence(parts[0], parts[1])
	case tree.Set:
		return set(parts[0], parts[1])
	case tree.Fetch:
		return fetch(parts[0])
	}
	return calculation(operationOf(n.Text), parts[0], parts[1])
}

func (b *builder) rows(nodes []*tree.Node) []row {
	var rows []row
	for _, n := range nodes {
		body := func() code { return b.expression(n.Parts[1]) }
		rows = append(rows, row{patternOf(n.Parts[0]), b.within(body, variablesOf(n.Parts[0])...)})
	}
	return rows
}

// variablesOf gives the variables of a pattern in the order in which it puts them into the scope.
func variablesOf(pattern *tree.Node) []string {
	var variables []string
	for inner := range pattern.All() {
		if inner.Kind == tree.Variable {
			variables = append(variables, inner.Text)
		}
	}
	return variables
}

// plainValue is the value of what is one token. Numbers have too few digits to be too large.
func plainValue(n *tree.Node) value {
	switch n.Kind {
	case tree.Number:
		number, _ := strconv.ParseInt(n.Text, 10, 64)
		return number
	case tree.Bool:
		return n.Text == "true"
	}
	return unit{}
}
