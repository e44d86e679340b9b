package check_test

import (
	"slices"

	"kiln/api"
	"kiln/tree"
)

// faults gathers what is wrong with the names of a declaration, in any order.
type faults []api.Errno

func (f *faults) when(wrong bool, errno api.Errno) {
	if wrong {
		*f = append(*f, errno)
	}
}

func (f faults) first() api.Errno {
	if len(f) == 0 {
		return api.OK
	}
	return slices.Min(f)
}

// variables looks at the names of an expression in which those variables are in scope.
func (o *oracle) variables(n *tree.Node, scope []string, f *faults) {
	within := func(part *tree.Node, more ...string) { o.variables(part, slices.Concat(scope, more), f) }
	switch n.Kind {
	case tree.Variable:
		f.when(!slices.Contains(scope, n.Text), api.ErrName)
	case tree.Fun:
		within(n.Parts[0], n.Text)
	case tree.Let:
		within(n.Parts[0])
		within(n.Parts[1], n.Text)
	case tree.Rec:
		within(n.Parts[0], n.Text)
		within(n.Parts[1], n.Text)
	case tree.Row:
		within(n.Parts[1], o.patternVariables(n.Parts[0], f)...)
	default:
		if n.Kind == tree.Con {
			o.constructor(n, f)
		}
		for _, part := range n.Parts {
			within(part)
		}
	}
}

func (o *oracle) constructor(n *tree.Node, f *faults) {
	made, isThere := o.constructors[n.Text]
	f.when(!isThere, api.ErrName)
	f.when(isThere && len(made.variant.Parts) != len(n.Parts), api.ErrArity)
}

func (o *oracle) patternVariables(n *tree.Node, f *faults) []string {
	if n.Kind == tree.Variable {
		return []string{n.Text}
	}
	if n.Kind == tree.Con {
		o.constructor(n, f)
	}
	var variables []string
	for _, part := range n.Parts {
		for _, variable := range o.patternVariables(part, f) {
			f.when(slices.Contains(variables, variable), api.ErrName)
			variables = append(variables, variable)
		}
	}
	return variables
}

// data looks at the names of a declaration of a type.
func (o *oracle) data(n *tree.Node, f *faults) {
	_, isThere := o.types[n.Text]
	f.when(isThere, api.ErrName)
	var letters, constructors []string
	for _, part := range n.Parts {
		if part.Kind == tree.OwnLetter {
			f.when(slices.Contains(letters, part.Text), api.ErrName)
			letters = append(letters, part.Text)
			continue
		}
		_, isThere := o.constructors[part.Text]
		f.when(isThere || slices.Contains(constructors, part.Text), api.ErrName)
		constructors = append(constructors, part.Text)
	}
	for _, part := range n.Parts[len(letters):] {
		for _, t := range part.Parts {
			o.writtenNames(t, n.Text, letters, f)
		}
	}
}

func (o *oracle) writtenNames(n *tree.Node, own string, letters []string, f *faults) {
	switch n.Kind {
	case tree.Letter:
		f.when(!slices.Contains(letters, n.Text), api.ErrName)
	case tree.Named:
		count, isThere := o.types[n.Text]
		if n.Text == own && !isThere {
			count, isThere = len(letters), true
		}
		f.when(!isThere, api.ErrName)
		f.when(isThere && count != len(n.Parts), api.ErrArity)
	}
	for _, part := range n.Parts {
		o.writtenNames(part, own, letters, f)
	}
}
