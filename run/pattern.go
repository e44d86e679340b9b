package run

import "kiln/tree"

// pattern tells whether it fits a value, and if so gives the scope with its variables in it, in the order in which they are written.
type pattern func(v value, around *scope) (*scope, bool)

type row struct {
	pattern pattern
	body    code
}

func patternOf(n *tree.Node) pattern {
	switch n.Kind {
	case tree.Wild:
		return func(_ value, around *scope) (*scope, bool) { return around, true }
	case tree.Variable:
		return func(v value, around *scope) (*scope, bool) { return around.with(v), true }
	case tree.Con:
		var parts []pattern
		for _, part := range n.Parts {
			parts = append(parts, patternOf(part))
		}
		return conPattern(n.Text, parts...)
	}
	return plainPattern(plainValue(n))
}

func plainPattern(wanted value) pattern {
	return func(v value, around *scope) (*scope, bool) { return around, v == wanted }
}

func conPattern(constructor string, parts ...pattern) pattern {
	return func(v value, around *scope) (*scope, bool) {
		whole := v.(*data)
		fits := whole.constructor == constructor
		for at := 0; fits && at < len(parts); at++ {
			around, fits = parts[at](whole.parts[at], around)
		}
		return around, fits
	}
}
