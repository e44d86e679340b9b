package check

import (
	"kiln/tree"
	"kiln/types"
)

// con types an expression or a pattern: expect gives a part the type that it must have.
func (y *typing) con(n *tree.Node, expect func(*tree.Node, *types.Type)) *types.Type {
	made := y.table[constructorKey(n.Text)].variant
	var chosen []*types.Type
	choice := map[string]*types.Type{}
	for _, own := range made.letters {
		letter := y.letter()
		chosen = append(chosen, letter)
		choice[own] = letter
	}
	for at, part := range n.Parts {
		expect(part, writtenType(made.parts[at], choice))
	}
	return types.Named(made.data, chosen...)
}

// writtenType builds what a declaration writes, for one choice of its letters.
func writtenType(written *tree.Node, choice map[string]*types.Type) *types.Type {
	if written.Kind == tree.Letter {
		return choice[written.Text]
	}
	var parts []*types.Type
	for _, part := range written.Parts {
		parts = append(parts, writtenType(part, choice))
	}
	if written.Kind == tree.Arrow {
		return types.Function(parts...)
	}
	return types.Named(written.Text, parts...)
}

func (y *typing) match(n *tree.Node) *types.Type {
	subject, answer := y.expression(n.Parts[0]), y.letter()
	for _, row := range n.Only(tree.Row) {
		y.row(row, subject, answer)
	}
	return answer
}

func (y *typing) row(n *tree.Node, subject, answer *types.Type) {
	r := rowTyping{typing: y}
	r.expect(n.Parts[0], subject)
	for _, variable := range r.variables {
		defer y.table.Bind(variableKey(variable.Name), meaning{scheme: variable.Type})()
	}
	y.expect(n.Parts[1], answer)
}

// rowTyping types the pattern of a row, and gathers the variables that are in scope behind it.
type rowTyping struct {
	*typing
	variables []Binding
}

// expect gives a pattern the type that it must have.
func (r *rowTyping) expect(n *tree.Node, wanted *types.Type) {
	need(types.Unify(r.give(r.pattern(n)), wanted))
}

func (r *rowTyping) pattern(n *tree.Node) *types.Type {
	switch n.Kind {
	case tree.Wild:
		return r.letter()
	case tree.Variable:
		letter := r.letter()
		r.variables = append(r.variables, Binding{n.Text, letter})
		return letter
	case tree.Con:
		return r.con(n, r.expect)
	}
	return plainType(n)
}
