package check

import (
	"kiln/tree"
	"kiln/types"
)

// noType is what typing panics with where a declaration can't be typed.
type noType struct{}

// typing gives the forms of one declaration their types.
type typing struct {
	table table
	depth int           // in how many values of `let` it stands
	given []*types.Type // to all expressions and patterns; those of variables stand in them
}

// typeDeclaration gives the type of a declaration's expression; false if it has none.
func typeDeclaration(t table, declaration *tree.Node) (found *types.Type, hasTypes bool) {
	defer func() {
		// Any other panic is a fault of the program, not of the text, and must not pass for one.
		if reason := recover(); reason != nil && reason != any(noType{}) {
			panic(reason)
		}
	}()
	y := typing{table: t}
	found = y.declaration(declaration)
	// What letters stand for may be found out late, and makes types grow that were given early.
	for _, given := range y.given {
		need(given.Fits())
	}
	return found, true
}

func need(holds bool) {
	if !holds {
		panic(noType{})
	}
}

func (y *typing) declaration(n *tree.Node) *types.Type {
	if n.Kind == tree.Do {
		y.expect(n.Parts[0], unitType())
		return unitType()
	}
	found := y.bound(n)
	need(isValue(n.Parts[0]) || !found.HasLetters())
	return found
}

func (y *typing) letter() *types.Type { return types.NewLetter(y.depth) }

// expect gives an expression the type that it must have.
func (y *typing) expect(n *tree.Node, wanted *types.Type) {
	need(types.Unify(y.expression(n), wanted))
}

func (y *typing) give(t *types.Type) *types.Type {
	y.given = append(y.given, t)
	return t
}

func (y *typing) expression(n *tree.Node) *types.Type {
	return y.give(y.form(n))
}

func (y *typing) form(n *tree.Node) *types.Type {
	switch n.Kind {
	case tree.Number, tree.Bool, tree.Unit:
		return plainType(n)
	case tree.Variable:
		return y.variable(n)
	case tree.Con:
		return y.con(n, y.expect)
	case tree.Fun:
		return y.function(n)
	case tree.App:
		return y.application(n)
	case tree.Let, tree.Rec:
		found := y.bound(n)
		return y.within(n.Text, found, n.Parts[1])
	case tree.If:
		y.expect(n.Parts[0], boolType())
		answer := y.expression(n.Parts[1])
		y.expect(n.Parts[2], answer)
		return answer
	case tree.Seq:
		y.expect(n.Parts[0], unitType())
		return y.expression(n.Parts[1])
	case tree.Set:
		cell := y.expression(n.Parts[0])
		need(types.Unify(cell, cellType(y.expression(n.Parts[1]))))
		return unitType()
	case tree.Fetch:
		content := y.letter()
		y.expect(n.Parts[0], cellType(content))
		return content
	case tree.Match:
		return y.match(n)
	}
	return y.calculation(n)
}

func plainType(n *tree.Node) *types.Type {
	switch n.Kind {
	case tree.Number:
		return intType()
	case tree.Bool:
		return boolType()
	}
	return unitType()
}

func (y *typing) calculation(n *tree.Node) *types.Type {
	y.expect(n.Parts[0], intType())
	y.expect(n.Parts[1], intType())
	if n.Text == "=" || n.Text == "<" {
		return boolType()
	}
	return intType()
}

// variable looks at the size ahead: what the letters of a scheme stand for, if they are not open, may have made it grow beyond all numbers.
func (y *typing) variable(n *tree.Node) *types.Type {
	scheme := y.table[variableKey(n.Text)].scheme
	need(scheme.Fits())
	return scheme.Instance(y.depth)
}

// within types an expression in which a variable has that scheme.
func (y *typing) within(variable string, scheme *types.Type, n *tree.Node) *types.Type {
	defer y.table.Bind(variableKey(variable), meaning{scheme: scheme})()
	return y.expression(n)
}

func (y *typing) function(n *tree.Node) *types.Type {
	argument := y.letter()
	return types.Function(argument, y.within(n.Text, argument, n.Parts[0]))
}

func (y *typing) application(n *tree.Node) *types.Type {
	function, argument, answer := y.expression(n.Parts[0]), y.expression(n.Parts[1]), y.letter()
	need(types.Unify(function, types.Function(argument, answer)))
	return answer
}

// bound gives the scheme of a `let` or a `rec`. Only a value stands deeper than what is around it, so that what is no value has no letters to open.
func (y *typing) bound(n *tree.Node) *types.Type {
	around := y.depth
	if isValue(n.Parts[0]) {
		y.depth++
	}
	found := y.value(n)
	y.depth = around
	need(found.Fits())
	found.Open(around)
	return found
}

// value types what a `let` or a `rec` stands for: a `rec` has itself in scope there, with one type.
func (y *typing) value(n *tree.Node) *types.Type {
	if n.Kind == tree.Let {
		return y.expression(n.Parts[0])
	}
	own := y.letter()
	need(types.Unify(own, y.within(n.Text, own, n.Parts[0])))
	return own
}

func isValue(n *tree.Node) bool {
	switch n.Kind {
	case tree.Number, tree.Bool, tree.Unit, tree.Variable, tree.Fun:
		return true
	case tree.Con:
		for _, part := range n.Parts {
			if !isValue(part) {
				return false
			}
		}
		return true
	}
	return false
}
