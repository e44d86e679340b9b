package parse

import (
	"kiln/lex"
	"kiln/tree"
)

// reader reads the tokens of one declaration from left to right. What it reads next is always told by the next token alone, so it never goes back.
type reader struct {
	rest []string
}

// peek gives the empty text, which is no token, where all are read.
func (r *reader) peek() string {
	if len(r.rest) == 0 {
		return ""
	}
	return r.rest[0]
}

func (r *reader) take() string {
	if len(r.rest) == 0 {
		panic(noForm{})
	}
	token := r.rest[0]
	r.rest = r.rest[1:]
	return token
}

// accept takes the token only if it comes next.
func (r *reader) accept(token string) bool {
	if r.peek() != token {
		return false
	}
	r.take()
	return true
}

func (r *reader) expect(token string) {
	if !r.accept(token) {
		panic(noForm{})
	}
}

func (r *reader) end() {
	if len(r.rest) > 0 {
		panic(noForm{})
	}
}

func (r *reader) name() string {
	if !lex.IsName(r.peek()) {
		panic(noForm{})
	}
	return r.take()
}

func (r *reader) names() []string {
	var names []string
	for lex.IsName(r.peek()) {
		names = append(names, r.take())
	}
	return names
}

// several reads as many forms as there are; read gives nil where none begins.
func several(read func() *tree.Node) []*tree.Node {
	var nodes []*tree.Node
	for node := read(); node != nil; node = read() {
		nodes = append(nodes, node)
	}
	return nodes
}

// need gives up where no form began.
func need(node *tree.Node) *tree.Node {
	if node == nil {
		panic(noForm{})
	}
	return node
}
