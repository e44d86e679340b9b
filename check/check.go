// Package check gives a program its types, or refuses it.
package check

import (
	"kiln/api"
	"kiln/names"
	"kiln/parse"
	"kiln/tree"
	"kiln/types"
)

// Program is a program that has types.
type Program struct {
	Declarations []*tree.Node
	Bindings     []Binding // of the `let` and `rec` declarations
	table        table
}

// Binding is the name of a declaration with its type.
type Binding struct {
	Name string
	Type *types.Type
}

// table has what the names that are known at a place of a program stand for.
type table = names.Table[meaning]

// meaning is what a name stands for; which of its fields say it hangs on the space of the name.
type meaning struct {
	scheme  *types.Type // of a variable
	variant variant     // of a constructor
	letters int         // of a type: how many it has
}

// variant is what a constructor makes.
type variant struct {
	data     string   // the name of its type
	letters  []string // of its type
	parts    []*tree.Node
	siblings int // how many variants its type has, itself too
}

// Read gives the program of a text; or an error and the place or the declaration that it speaks of.
func Read(text string) (*Program, int, api.Errno) {
	declarations, place, errno := parse.Program(text)
	if errno != api.OK {
		return nil, place, errno
	}
	p := &Program{Declarations: declarations, table: knownAhead()}
	for number, declaration := range declarations {
		if errno := p.declare(declaration); errno != api.OK {
			return nil, number, errno
		}
	}
	return p, 0, api.OK
}

// Variants tells how many variants the type of a constructor has.
func (p *Program) Variants(constructor string) int {
	return p.table[constructorKey(constructor)].variant.siblings
}

func variableKey(name string) names.Key { return names.Key{Space: names.Variables, Name: name} }

func constructorKey(name string) names.Key { return names.Key{Space: names.Constructors, Name: name} }

func typeKey(name string) names.Key { return names.Key{Space: names.Types, Name: name} }

func intType() *types.Type { return types.Named("int") }

func boolType() *types.Type { return types.Named("bool") }

func unitType() *types.Type { return types.Named("unit") }

func cellType(content *types.Type) *types.Type { return types.Named("ref", content) }

func knownAhead() table {
	content := types.NewOpenLetter()
	return table{
		typeKey("int"):     {},
		typeKey("bool"):    {},
		typeKey("unit"):    {},
		typeKey("ref"):     {letters: 1},
		variableKey("put"): {scheme: types.Function(intType(), unitType())},
		variableKey("get"): {scheme: types.Function(unitType(), intType())},
		variableKey("ref"): {scheme: types.Function(content, cellType(content))},
	}
}

// declare looks at one declaration: the names of all its parts come ahead of all numbers of parts, and these ahead of all types.
func (p *Program) declare(declaration *tree.Node) api.Errno {
	if errno := lookNamesOver(p.table, declaration); errno != api.OK {
		return errno
	}
	if declaration.Kind == tree.Type {
		declareType(p.table, declaration)
		return api.OK
	}
	found, hasTypes := typeDeclaration(p.table, declaration)
	if !hasTypes {
		return api.ErrType
	}
	if declaration.Kind != tree.Do {
		p.table[variableKey(declaration.Text)] = meaning{scheme: found}
		p.Bindings = append(p.Bindings, Binding{declaration.Text, found})
	}
	return api.OK
}

func declareType(t table, declaration *tree.Node) {
	letters, variants := textsOf(declaration.Only(tree.OwnLetter)), declaration.Only(tree.Variant)
	t[typeKey(declaration.Text)] = meaning{letters: len(letters)}
	for _, made := range variants {
		t[constructorKey(made.Text)] = meaning{variant: variant{declaration.Text, letters, made.Parts, len(variants)}}
	}
}
