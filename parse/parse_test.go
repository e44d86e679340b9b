package parse_test

import (
	"slices"
	"strings"
	"testing"

	"kiln/api"
	"kiln/lex"
	"kiln/parse"
)

// hasForm asks the reader whether the tokens are one declaration.
func hasForm(tokens []string) bool {
	_, _, errno := parse.Program(strings.Join(tokens, " ") + " .")
	return errno == api.OK
}

// allTokens has each word and sign, but the `.`, and one token of each of the other kinds.
func allTokens() []string {
	return strings.Fields("x C 'a 1 let rec in fun if then else match with end type do true false ( ) = < + - * / ; := -> | ! _")
}

// holdAgainstGrammar compares the reader with the document's grammar.
func holdAgainstGrammar(t *testing.T, g grammar, tokens []string) {
	t.Helper()
	if len(tokens) > longestRow {
		return
	}
	if got, want := hasForm(tokens), g.derives("declaration", tokens); got != want {
		t.Errorf("%q: the reader says %t, the grammar %t", strings.Join(tokens, " "), got, want)
	}
}

func TestP4ShortRowsOfTokensAgainstTheGrammar(t *testing.T) {
	g := documentsGrammar(t)
	for _, frame := range []string{
		"@", "do @", "do x @", "do x + @ ; y", "do fun @ x", "do let @ in x", "do if x then @ x", "let @ 1", "let rec @ x",
		"do match x with | @ -> y end", "do match x with | C @ -> y end", "do match @ end",
		"type t @", "type t = C @", "type t = C ( @ )", "type t = C ( t @ )",
	} {
		ahead, behind, _ := strings.Cut(frame, "@")
		for _, row := range shortRows(2) {
			holdAgainstGrammar(t, g, append(append(strings.Fields(ahead), row...), strings.Fields(behind)...))
		}
	}
	for _, row := range shortRows(3) {
		holdAgainstGrammar(t, g, append([]string{"do"}, row...))
		holdAgainstGrammar(t, g, append([]string{"type", "t", "=", "C"}, row...))
	}
}

// shortRows gives all rows of up to so many tokens.
func shortRows(length int) [][]string {
	rows := [][]string{{}}
	for begin := 0; length > 0; length-- {
		end := len(rows)
		for _, row := range rows[begin:end] {
			for _, token := range allTokens() {
				rows = append(rows, append(append([]string{}, row...), token))
			}
		}
		begin = end
	}
	return rows
}

// spoil changes a few tokens of a declaration: most of what comes out has nearly the form.
func spoil(d *dice, tokens []string) []string {
	spoiled := append([]string{}, tokens...)
	for range 1 + d.roll(2) {
		at := d.roll(len(spoiled))
		switch d.roll(4) {
		case 0:
			spoiled = append(spoiled[:at], spoiled[at+1:]...)
		case 1:
			spoiled[at] = d.pick(allTokens()...)
		case 2:
			spoiled = append(spoiled[:at+1], spoiled[at:]...)
			spoiled[at] = d.pick(allTokens()...)
		case 3:
			other := d.roll(len(spoiled))
			spoiled[at], spoiled[other] = spoiled[other], spoiled[at]
		}
		if len(spoiled) == 0 {
			break
		}
	}
	return spoiled
}

func TestP4SpoiledDeclarationsAgainstTheGrammar(t *testing.T) {
	g := documentsGrammar(t)
	d := newDice(1)
	for range 20000 {
		tokens := d.source(d.declaration(1 + d.roll(3)))
		holdAgainstGrammar(t, g, tokens)
		holdAgainstGrammar(t, g, spoil(d, tokens))
	}
}

// TestP4WrittenTreesAreReadAgain: a tree that is written down as a text, with only the brackets that it needs and some that it does not, is read as that tree.
func TestP4WrittenTreesAreReadAgain(t *testing.T) {
	d := newDice(2)
	for range 20000 {
		declaration := d.declaration(4)
		text := d.spread(append(d.source(declaration), "."))
		if len(text) > api.MaxText {
			continue
		}
		trees, place, errno := parse.Program(text)
		if errno != api.OK || place != 0 || len(trees) != 1 {
			t.Fatalf("%q: %d trees, %d, %d", text, len(trees), place, errno)
		}
		if trees[0].String() != declaration.String() {
			t.Fatalf("%q: %s, want %s", text, trees[0], declaration)
		}
	}
}

// FuzzProgram seeks texts that the reader and the grammar understand differently.
func FuzzProgram(f *testing.F) {
	d := newDice(3)
	for range 50 {
		f.Add(d.spread(append(d.source(d.declaration(3)), ".")))
	}
	g := documentsGrammar(f)
	f.Fuzz(func(t *testing.T, text string) {
		tokens, _, errno := lex.Cut(text)
		if errno != api.OK {
			return
		}
		wantPlace, wantErrno := 0, api.OK
		for count := 0; len(tokens) > 0 && wantErrno == api.OK; count++ {
			end := slices.Index(tokens, ".")
			if max(end, len(tokens)-end) > longestRow || strings.Count(text, "|") > api.MaxRows {
				return
			}
			if end < 0 || !g.derives("declaration", tokens[:end]) {
				wantPlace, wantErrno = count, api.ErrForm
			}
			tokens = tokens[end+1:]
		}
		if _, place, errno := parse.Program(text); place != wantPlace || errno != wantErrno {
			t.Errorf("%q: %d, %d, want %d, %d", text, place, errno, wantPlace, wantErrno)
		}
	})
}
