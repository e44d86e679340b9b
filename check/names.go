package check

import (
	"slices"

	"kiln/api"
	"kiln/names"
	"kiln/tree"
)

// look goes over the names of a declaration. It goes on behind a fault: one that is named first may come later.
type look struct {
	table                 table
	wrongName, wrongCount bool
}

func lookNamesOver(t table, declaration *tree.Node) api.Errno {
	l := look{table: t}
	l.declaration(declaration)
	switch {
	case l.wrongName:
		return api.ErrName
	case l.wrongCount:
		return api.ErrArity
	}
	return api.OK
}

func (l *look) declaration(n *tree.Node) {
	switch n.Kind {
	case tree.Type:
		l.typeDeclaration(n)
	case tree.Rec:
		l.within(n.Parts[0], n.Text)
	default:
		l.expression(n.Parts[0])
	}
}

func (l *look) typeDeclaration(n *tree.Node) {
	letters, variants := textsOf(n.Only(tree.OwnLetter)), n.Only(tree.Variant)
	constructors := textsOf(variants)
	l.refuseName(l.table.Has(typeKey(n.Text)) || hasTwice(letters) || hasTwice(constructors))
	for _, constructor := range constructors {
		l.refuseName(l.table.Has(constructorKey(constructor)))
	}
	defer l.table.Bind(typeKey(n.Text), meaning{letters: len(letters)})()
	for _, variant := range variants {
		for _, part := range variant.Parts {
			l.writtenType(part, letters)
		}
	}
}

func (l *look) writtenType(written *tree.Node, letters []string) {
	for n := range written.All() {
		switch n.Kind {
		case tree.Letter:
			l.refuseName(!slices.Contains(letters, n.Text))
		case tree.Named:
			l.parts(n, typeKey(n.Text), func(known meaning) int { return known.letters })
		}
	}
}

func (l *look) expression(n *tree.Node) {
	switch n.Kind {
	case tree.Variable:
		l.refuseName(!l.table.Has(variableKey(n.Text)))
	case tree.Fun:
		l.within(n.Parts[0], n.Text)
	case tree.Let:
		l.expression(n.Parts[0])
		l.within(n.Parts[1], n.Text)
	case tree.Rec:
		l.within(n.Parts[0], n.Text)
		l.within(n.Parts[1], n.Text)
	case tree.Row:
		l.row(n)
	case tree.Con:
		l.con(n)
		fallthrough
	default:
		for _, part := range n.Parts {
			l.expression(part)
		}
	}
}

// within looks at an expression in which these variables are in scope.
func (l *look) within(n *tree.Node, variables ...string) {
	for _, variable := range variables {
		defer l.table.Bind(variableKey(variable), meaning{})()
	}
	l.expression(n)
}

func (l *look) row(n *tree.Node) {
	var variables []string
	for inner := range n.Parts[0].All() {
		switch inner.Kind {
		case tree.Variable:
			variables = append(variables, inner.Text)
		case tree.Con:
			l.con(inner)
		}
	}
	l.refuseName(hasTwice(variables))
	l.within(n.Parts[1], variables...)
}

func (l *look) con(n *tree.Node) {
	l.parts(n, constructorKey(n.Text), func(known meaning) int { return len(known.variant.parts) })
}

// parts holds what stands behind a constructor or a type's name against how many parts it has.
func (l *look) parts(n *tree.Node, key names.Key, count func(meaning) int) {
	known, isKnown := l.table[key]
	l.refuseName(!isKnown)
	l.wrongCount = l.wrongCount || len(n.Parts) != count(known)
}

func (l *look) refuseName(wrong bool) { l.wrongName = l.wrongName || wrong }

func textsOf(nodes []*tree.Node) []string {
	var texts []string
	for _, node := range nodes {
		texts = append(texts, node.Text)
	}
	return texts
}

func hasTwice(texts []string) bool {
	sorted := slices.Sorted(slices.Values(texts))
	return len(slices.Compact(sorted)) < len(texts)
}
