// Package types has the types that are given to expressions, patterns and variables.
package types

import (
	"math"

	"kiln/api"
)

const (
	arrow = "->"

	// openDepth is deeper than any `let` can stand: who asks which letters are deeper than it finds the open ones too.
	openDepth = math.MaxInt
)

// Type is a letter, or a name or an arrow with its parts. A letter that has been found to stand for another type is that type from then on.
type Type struct {
	name  string // empty for a letter
	parts []*Type
	found *Type // what a letter stands for; nil as long as that is open to everything
	depth int   // of a letter: in how many values of `let` it stands
}

// Named builds the type of a name and of what it is of.
func Named(name string, parts ...*Type) *Type {
	return &Type{name: name, parts: parts}
}

// Function builds the type of a function of several arguments: of all the types but the last one, to the last one.
func Function(arguments ...*Type) *Type {
	last := len(arguments) - 1
	function := arguments[last]
	for at := last - 1; at >= 0; at-- {
		function = Named(arrow, arguments[at], function)
	}
	return function
}

// NewLetter makes a letter that stands in so many values of `let`.
func NewLetter(depth int) *Type { return &Type{depth: depth} }

// NewOpenLetter makes a letter in whose place each use may put another type.
func NewOpenLetter() *Type { return NewLetter(openDepth) }

// root gives what a type has been found to be. It shortens the way there, which else would grow with each letter that stands for a letter.
func (t *Type) root() *Type {
	if t.found == nil {
		return t
	}
	t.found = t.found.root()
	return t.found
}

func (t *Type) isLetter() bool { return t.name == "" }

// walk goes over all names, letters and arrows of a type, as often as they stand there, until visit says no; it tells whether visit never did.
func (t *Type) walk(visit func(*Type) bool) bool {
	t = t.root()
	if !visit(t) {
		return false
	}
	for _, part := range t.parts {
		if !part.walk(visit) {
			return false
		}
	}
	return true
}

// Fits tells whether a type is no larger than types may be. It counts no further than that: what letters stand for can make a type grow beyond all numbers.
func (t *Type) Fits() bool {
	size := 0
	return t.walk(func(*Type) bool {
		size++
		return size <= api.MaxSize
	})
}

// HasLetters tells whether a type that fits has any letters.
func (t *Type) HasLetters() bool {
	return !t.walk(func(inner *Type) bool { return !inner.isLetter() })
}
