// Package tree has the trees as which the forms of a program are understood.
package tree

import (
	"iter"
	"strings"
)

// Kind says which form a node is.
type Kind int

const (
	Number Kind = iota
	Bool
	Unit
	Variable
	Wild
	Fun
	Let
	Rec
	If
	Seq
	Set
	Calc
	Fetch
	App
	Con
	Match
	Row
	Do
	Type
	OwnLetter
	Variant
	Letter
	Named
	Arrow
)

// Node is one form. Its text is what it is told by, if it is told by anything: digits, a name, a constructor, a sign; letters stand there without their `'`. A Let or a Rec of one part is a declaration, of two an expression.
type Node struct {
	Kind  Kind
	Text  string
	Parts []*Node
}

// New builds the tree of a form out of the trees of its parts.
func New(kind Kind, text string, parts ...*Node) *Node {
	return &Node{Kind: kind, Text: text, Parts: parts}
}

// String writes a tree with one blank between parts.
func (n *Node) String() string {
	var out strings.Builder
	n.write(&out)
	return out.String()
}

// write puts all parts into one builder: texts joined at each level would be copied as often as the tree is deep.
func (n *Node) write(out *strings.Builder) {
	switch n.Kind {
	case Number, Bool, Unit, Variable, Wild, OwnLetter:
		out.WriteString(n.Text)
	case Letter:
		out.WriteString("'" + n.Text)
	default:
		n.writeInBrackets(out)
	}
}

func (n *Node) writeInBrackets(out *strings.Builder) {
	out.WriteString("(" + n.title())
	for _, part := range n.Parts {
		out.WriteByte(' ')
		part.write(out)
	}
	out.WriteByte(')')
}

// title gives what stands in the brackets ahead of the parts.
func (n *Node) title() string {
	word := n.Kind.word()
	if word == "" || n.Text == "" {
		return word + n.Text
	}
	return word + " " + n.Text
}

// word is empty for the kinds whose own text comes first.
func (k Kind) word() string {
	switch k {
	case Fun:
		return "fun"
	case Let:
		return "let"
	case Rec:
		return "rec"
	case If:
		return "if"
	case Seq:
		return "seq"
	case Set:
		return "set"
	case Fetch:
		return "!"
	case App:
		return "app"
	case Con:
		return "con"
	case Match:
		return "match"
	case Row:
		return "row"
	case Do:
		return "do"
	case Type:
		return "type"
	case Arrow:
		return "->"
	}
	return ""
}

// All goes over a node and all that it is built of, in the order in which they begin in the text.
func (n *Node) All() iter.Seq[*Node] {
	return func(yield func(*Node) bool) { n.walk(yield) }
}

// walk tells whether visit never said no.
func (n *Node) walk(visit func(*Node) bool) bool {
	if !visit(n) {
		return false
	}
	for _, part := range n.Parts {
		if !part.walk(visit) {
			return false
		}
	}
	return true
}

// Only gives the parts that are of a kind.
func (n *Node) Only(kind Kind) []*Node {
	var parts []*Node
	for _, part := range n.Parts {
		if part.Kind == kind {
			parts = append(parts, part)
		}
	}
	return parts
}
