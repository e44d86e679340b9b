package parse

import (
	"kiln/lex"
	"kiln/tree"
)

// typeDeclaration reads from behind the `type`.
func (r *reader) typeDeclaration() *tree.Node {
	name := r.name()
	parts := several(r.ownLetter)
	r.expect("=")
	parts = append(parts, r.variant())
	for r.accept("|") {
		parts = append(parts, r.variant())
	}
	return tree.New(tree.Type, name, parts...)
}

func (r *reader) variant() *tree.Node {
	if !lex.IsConstructor(r.peek()) {
		panic(noForm{})
	}
	return tree.New(tree.Variant, r.take(), several(r.partType)...)
}

// partType reads a type that needs no brackets as a part: a name stands there without parts of its own. It gives nil where none begins.
func (r *reader) partType() *tree.Node {
	if lex.IsName(r.peek()) {
		return tree.New(tree.Named, r.take())
	}
	return r.closedType()
}

func (r *reader) wholeType() *tree.Node {
	from := r.argumentType()
	if r.accept("->") {
		return tree.New(tree.Arrow, "", from, r.wholeType())
	}
	return from
}

func (r *reader) argumentType() *tree.Node {
	if lex.IsName(r.peek()) {
		return tree.New(tree.Named, r.take(), several(r.partType)...)
	}
	return need(r.closedType())
}

// closedType reads a letter or a type in brackets; it gives nil where neither begins.
func (r *reader) closedType() *tree.Node {
	if r.accept("(") {
		node := r.wholeType()
		r.expect(")")
		return node
	}
	return r.letter(tree.Letter)
}

func (r *reader) ownLetter() *tree.Node { return r.letter(tree.OwnLetter) }

func (r *reader) letter(kind tree.Kind) *tree.Node {
	if !lex.IsLetter(r.peek()) {
		return nil
	}
	return tree.New(kind, r.take()[len("'"):])
}
