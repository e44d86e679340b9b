// Package parse reads the declarations of a program as trees.
package parse

import (
	"slices"

	"kiln/api"
	"kiln/lex"
	"kiln/tree"
)

// noForm is what a reader panics with where the tokens have not the form.
type noForm struct{}

// Program gives the trees of a text's declarations; or an error and the place or the declaration that it speaks of.
func Program(text string) ([]*tree.Node, int, api.Errno) {
	tokens, place, errno := lex.Cut(text)
	if errno != api.OK {
		return nil, place, errno
	}
	var declarations []*tree.Node
	for len(tokens) > 0 {
		end := slices.Index(tokens, ".")
		if end < 0 {
			return nil, len(declarations), api.ErrForm
		}
		declaration := readDeclaration(tokens[:end])
		if declaration == nil {
			return nil, len(declarations), api.ErrForm
		}
		declarations = append(declarations, declaration)
		tokens = tokens[end+1:]
	}
	return declarations, 0, api.OK
}

// readDeclaration gives nil if the tokens have not the form.
func readDeclaration(tokens []string) (declaration *tree.Node) {
	defer func() {
		// Any other panic is a fault of the program, not of the text, and must not pass for one.
		if reason := recover(); reason != nil && reason != any(noForm{}) {
			panic(reason)
		}
	}()
	r := reader{rest: tokens}
	node := r.declaration()
	r.end()
	return node
}

func (r *reader) declaration() *tree.Node {
	switch r.take() {
	case "type":
		return r.typeDeclaration()
	case "let":
		kind, name, value := r.binding()
		return tree.New(kind, name, value)
	case "do":
		return tree.New(tree.Do, "", r.expression())
	}
	panic(noForm{})
}

// binding reads what a `let` of a declaration and of an expression have in common: all from behind the `let` up to the value.
func (r *reader) binding() (tree.Kind, string, *tree.Node) {
	kind := tree.Let
	if r.accept("rec") {
		kind = tree.Rec
	}
	name := r.name()
	arguments := r.names()
	if kind == tree.Rec && len(arguments) == 0 {
		panic(noForm{})
	}
	r.expect("=")
	return kind, name, functionOf(arguments, r.expression())
}

// functionOf gives the body itself where there are no arguments.
func functionOf(arguments []string, body *tree.Node) *tree.Node {
	for _, argument := range slices.Backward(arguments) {
		body = tree.New(tree.Fun, argument, body)
	}
	return body
}
