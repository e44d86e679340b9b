package parse_test

import (
	"math/rand"
	"strings"

	"kiln/tree"
)

// dice makes declarations at random, the same ones for the same seed, and writes them down as texts.
type dice struct{ random *rand.Rand }

func newDice(seed int64) *dice { return &dice{rand.New(rand.NewSource(seed))} }

func (d *dice) roll(sides int) int { return d.random.Intn(sides) }

func (d *dice) pick(texts ...string) string { return texts[d.roll(len(texts))] }

func (d *dice) name() string { return d.pick("a", "f", "x", "y_1", "inn") }

func (d *dice) constructor() string { return d.pick("C", "Nil", "Cons") }

func (d *dice) several(least, most int, one func() *tree.Node) []*tree.Node {
	var nodes []*tree.Node
	for range least + d.roll(most-least+1) {
		nodes = append(nodes, one())
	}
	return nodes
}

func (d *dice) declaration(depth int) *tree.Node {
	switch d.roll(4) {
	case 0:
		return tree.New(tree.Do, "", d.expression(depth))
	case 1:
		return tree.New(tree.Let, d.name(), d.expression(depth))
	case 2:
		return tree.New(tree.Rec, d.name(), tree.New(tree.Fun, d.name(), d.expression(depth)))
	}
	parts := d.several(0, 2, func() *tree.Node { return tree.New(tree.OwnLetter, d.pick("a", "b")) })
	variant := func() *tree.Node {
		return tree.New(tree.Variant, d.constructor(), d.several(0, 3, func() *tree.Node { return d.typeTree(depth) })...)
	}
	return tree.New(tree.Type, d.name(), append(parts, d.several(1, 3, variant)...)...)
}

func (d *dice) typeTree(depth int) *tree.Node {
	part := func() *tree.Node { return d.typeTree(depth - 1) }
	switch side := d.roll(4); {
	case depth == 0 || side == 0:
		return tree.New(tree.Letter, d.pick("a", "b"))
	case side == 1:
		return tree.New(tree.Named, d.name())
	case side == 2:
		return tree.New(tree.Named, d.name(), d.several(1, 3, part)...)
	}
	return tree.New(tree.Arrow, "", part(), part())
}

func (d *dice) leaf() *tree.Node {
	switch d.roll(5) {
	case 0:
		return tree.New(tree.Number, d.pick("0", "1", "70", "100"))
	case 1:
		return tree.New(tree.Bool, d.pick("true", "false"))
	case 2:
		return tree.New(tree.Unit, "()")
	case 3:
		return tree.New(tree.Con, d.constructor())
	}
	return tree.New(tree.Variable, d.name())
}

func (d *dice) expression(depth int) *tree.Node {
	if depth == 0 {
		return d.leaf()
	}
	part := func() *tree.Node { return d.expression(d.roll(depth)) }
	switch d.roll(13) {
	case 0:
		return tree.New(tree.Fun, d.name(), part())
	case 1:
		return tree.New(tree.Let, d.name(), part(), part())
	case 2:
		return tree.New(tree.Rec, d.name(), tree.New(tree.Fun, d.name(), part()), part())
	case 3:
		return tree.New(tree.If, "", part(), part(), part())
	case 4:
		return tree.New(tree.Seq, "", part(), part())
	case 5:
		return tree.New(tree.Set, "", part(), part())
	case 6, 7, 8:
		return tree.New(tree.Calc, d.pick("=", "<", "+", "-", "*", "/"), part(), part())
	case 9:
		return tree.New(tree.Fetch, "", part())
	case 10:
		return tree.New(tree.App, "", part(), part())
	case 11:
		return tree.New(tree.Con, d.constructor(), d.several(1, 3, part)...)
	}
	row := func() *tree.Node { return tree.New(tree.Row, "", d.pattern(2), part()) }
	return tree.New(tree.Match, "", append([]*tree.Node{part()}, d.several(1, 4, row)...)...)
}

func (d *dice) pattern(depth int) *tree.Node {
	switch side := d.roll(3); {
	case side == 0:
		return tree.New(tree.Wild, "_")
	case side == 1 || depth == 0:
		return d.leaf()
	}
	return tree.New(tree.Con, d.constructor(), d.several(1, 3, func() *tree.Node { return d.pattern(depth - 1) })...)
}

// The levels of expressions: what stands at one may stand without brackets where a lower one is asked for.
const (
	exprLevel = iota
	setLevel
	compLevel
	sumLevel
	prodLevel
	appLevel
	atomLevel
)

func levelOf(n *tree.Node) int {
	switch n.Kind {
	case tree.Fun, tree.Let, tree.Rec, tree.If, tree.Seq:
		return exprLevel
	case tree.Set:
		return setLevel
	case tree.Calc:
		return compLevel + strings.Index("=<+-*/", n.Text)/2
	case tree.App:
		return appLevel
	case tree.Con:
		if len(n.Parts) > 0 {
			return appLevel
		}
	}
	return atomLevel
}

// source writes a declaration down as tokens.
func (d *dice) source(n *tree.Node) []string {
	switch n.Kind {
	case tree.Do:
		return join("do", d.at(exprLevel, n.Parts[0]))
	case tree.Type:
		return d.typeSource(n)
	}
	return d.bindingSource(n)
}

// join makes one row of tokens out of texts and rows of tokens.
func join(pieces ...any) []string {
	var tokens []string
	for _, piece := range pieces {
		switch piece := piece.(type) {
		case string:
			tokens = append(tokens, piece)
		case []string:
			tokens = append(tokens, piece...)
		}
	}
	return tokens
}

// bindingSource moves names of functions ahead of the `=`: at least one if it must, else as it comes.
func (d *dice) bindingSource(n *tree.Node) []string {
	tokens, value := []string{"let", n.Text}, n.Parts[0]
	if n.Kind == tree.Rec {
		tokens = []string{"let", "rec", n.Text, value.Text}
		value = value.Parts[0]
	}
	for value.Kind == tree.Fun && d.roll(2) == 0 {
		tokens = append(tokens, value.Text)
		value = value.Parts[0]
	}
	return join(tokens, "=", d.at(exprLevel, value))
}

func (d *dice) inBrackets(tokens []string) []string { return join("(", tokens, ")") }

// at writes an expression down where the grammar asks for one of a level.
func (d *dice) at(level int, n *tree.Node) []string {
	tokens := d.bare(n)
	if levelOf(n) < level || d.roll(10) == 0 {
		return d.inBrackets(tokens)
	}
	return tokens
}

func (d *dice) bare(n *tree.Node) []string {
	level := levelOf(n)
	switch n.Kind {
	case tree.Number:
		return []string{strings.Repeat("0", d.roll(3)) + n.Text}
	case tree.Unit:
		return []string{"(", ")"}
	case tree.Fun:
		return join("fun", d.functionSource(n))
	case tree.Let, tree.Rec:
		return join(d.bindingSource(n), "in", d.at(exprLevel, n.Parts[1]))
	case tree.If:
		return join("if", d.at(exprLevel, n.Parts[0]), "then", d.at(exprLevel, n.Parts[1]), "else", d.at(exprLevel, n.Parts[2]))
	case tree.Seq:
		return join(d.at(setLevel, n.Parts[0]), ";", d.at(exprLevel, n.Parts[1]))
	case tree.Set:
		return join(d.at(compLevel, n.Parts[0]), ":=", d.at(compLevel, n.Parts[1]))
	case tree.Calc:
		left := level
		if level == compLevel {
			left++
		}
		return join(d.at(left, n.Parts[0]), n.Text, d.at(level+1, n.Parts[1]))
	case tree.Fetch:
		return join("!", d.at(atomLevel, n.Parts[0]))
	case tree.App:
		return join(d.functionPosition(n.Parts[0]), d.at(atomLevel, n.Parts[1]))
	case tree.Con:
		tokens := []string{n.Text}
		for _, part := range n.Parts {
			tokens = append(tokens, d.at(atomLevel, part)...)
		}
		return tokens
	case tree.Match:
		return d.matchSource(n)
	}
	return []string{n.Text}
}

// functionPosition puts brackets around a constructor: without them it would take the argument as a part.
func (d *dice) functionPosition(n *tree.Node) []string {
	if n.Kind == tree.Con {
		return d.inBrackets(d.bare(n))
	}
	return d.at(appLevel, n)
}

func (d *dice) functionSource(n *tree.Node) []string {
	body := n.Parts[0]
	if body.Kind == tree.Fun && d.roll(2) == 0 {
		return join(n.Text, d.functionSource(body))
	}
	return join(n.Text, "->", d.at(exprLevel, body))
}

func (d *dice) matchSource(n *tree.Node) []string {
	tokens := join("match", d.at(exprLevel, n.Parts[0]), "with")
	for _, row := range n.Parts[1:] {
		tokens = join(tokens, "|", d.patternSource(false, row.Parts[0]), "->", d.at(exprLevel, row.Parts[1]))
	}
	return append(tokens, "end")
}

func (d *dice) patternSource(asPart bool, n *tree.Node) []string {
	tokens := []string{n.Text}
	switch n.Kind {
	case tree.Number, tree.Unit:
		tokens = d.bare(n)
	case tree.Con:
		for _, part := range n.Parts {
			tokens = append(tokens, d.patternSource(true, part)...)
		}
	}
	if asPart && len(n.Parts) > 0 || d.roll(10) == 0 {
		return d.inBrackets(tokens)
	}
	return tokens
}

func (d *dice) typeSource(n *tree.Node) []string {
	tokens, sign := []string{"type", n.Text}, "="
	for _, part := range n.Parts {
		if part.Kind == tree.OwnLetter {
			tokens = append(tokens, "'"+part.Text)
			continue
		}
		tokens = append(tokens, sign, part.Text)
		for _, inner := range part.Parts {
			tokens = append(tokens, d.typeAt(2, inner)...)
		}
		sign = "|"
	}
	return tokens
}

// typeAt writes a type down where the grammar asks for a part (2), for what stands ahead of an arrow (1), or for a whole type (0).
func (d *dice) typeAt(level int, n *tree.Node) []string {
	tokens, own := []string{n.Text}, 2
	switch {
	case n.Kind == tree.Letter:
		tokens = []string{"'" + n.Text}
	case n.Kind == tree.Arrow:
		tokens, own = join(d.typeAt(1, n.Parts[0]), "->", d.typeAt(0, n.Parts[1])), 0
	case len(n.Parts) > 0:
		own = 1
		for _, part := range n.Parts {
			tokens = append(tokens, d.typeAt(2, part)...)
		}
	}
	if own < level || d.roll(10) == 0 {
		return d.inBrackets(tokens)
	}
	return tokens
}

// spread joins tokens to a text with all kinds of gaps.
func (d *dice) spread(tokens []string) string {
	var text strings.Builder
	for _, token := range tokens {
		text.WriteString(token + d.pick(" ", "  ", "\t", "\n", " # a . b\n"))
	}
	return text.String()
}
