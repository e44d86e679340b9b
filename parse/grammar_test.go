package parse_test

import (
	"regexp"
	"strings"
	"testing"
)

// documentsText is the grammar as the document writes it.
const documentsText = `
    declaration = "type" NAME LETTER* "=" variant ("|" variant)*
                | "let" NAME NAME* "=" expr
                | "let" "rec" NAME NAME+ "=" expr
                | "do" expr
    variant     = CONSTRUCTOR atype*
    atype       = LETTER | NAME | "(" type ")"
    type        = atype1 ["->" type]
    atype1      = NAME atype* | LETTER | "(" type ")"
    expr        = "let" NAME NAME* "=" expr "in" expr
                | "let" "rec" NAME NAME+ "=" expr "in" expr
                | "fun" NAME+ "->" expr
                | "if" expr "then" expr "else" expr
                | set [";" expr]
    set         = comp [":=" comp]
    comp        = sum [("=" | "<") sum]
    sum         = prod (("+" | "-") prod)*
    prod        = app (("*" | "/") app)*
    app         = atom atom*
    atom        = NUMBER | "true" | "false" | "(" ")" | "(" expr ")" | NAME | CONSTRUCTOR | "!" atom
                | "match" expr "with" ("|" pattern "->" expr)+ "end"
    pattern     = CONSTRUCTOR apattern* | apattern
    apattern    = "_" | NAME | NUMBER | "true" | "false" | "(" ")" | CONSTRUCTOR | "(" pattern ")"
`

// longestRow is how many tokens the grammar can be asked of: places in them, the end too, are bits of a word.
const longestRow = 62

// places is a set of places between tokens.
type places uint64

// look goes from the places at which a form may begin to those at which it may end.
type look func(s *search, from places) places

// grammar has the forms by name.
type grammar map[string]look

type formAt struct {
	form string
	at   int
}

type search struct {
	grammar grammar
	tokens  []string
	found   map[formAt]places
}

func (g grammar) derives(form string, tokens []string) bool {
	s := &search{g, tokens, map[formAt]places{}}
	return g[form](s, 1)&(1<<len(tokens)) != 0
}

// documentsGrammar follows every way that the grammar leaves open, and so leans on nothing that tells the ways apart.
func documentsGrammar(t testing.TB) grammar {
	t.Helper()
	pieces := regexp.MustCompile(`"[^"]*"|\w+ +=|\w+|[][()*+|]`).FindAllString(documentsText, -1)
	g := grammar{}
	for len(pieces) > 0 {
		name, isHead := strings.CutSuffix(pieces[0], "=")
		if !isHead {
			t.Fatalf("the grammar: %q", pieces)
		}
		g[strings.TrimSpace(name)], pieces = choiceOf(pieces[1:])
	}
	return g
}

func choiceOf(pieces []string) (look, []string) {
	first, rest := rowOf(pieces)
	if len(rest) == 0 || rest[0] != "|" {
		return first, rest
	}
	others, rest := choiceOf(rest[1:])
	return func(s *search, from places) places { return first(s, from) | others(s, from) }, rest
}

func rowOf(pieces []string) (look, []string) {
	whole := func(s *search, from places) places { return from }
	for len(pieces) > 0 && !strings.Contains("|)]", pieces[0]) && !strings.HasSuffix(pieces[0], " =") {
		var part look
		part, pieces = partOf(pieces)
		ahead := whole
		whole = func(s *search, from places) places { return part(s, ahead(s, from)) }
	}
	return whole, pieces
}

func partOf(pieces []string) (look, []string) {
	part, rest := oneOf(pieces)
	if len(rest) == 0 {
		return part, rest
	}
	switch rest[0] {
	case "*":
		return anyNumberOf(part), rest[1:]
	case "+":
		return func(s *search, from places) places { return anyNumberOf(part)(s, part(s, from)) }, rest[1:]
	}
	return part, rest
}

func anyNumberOf(part look) look {
	return func(s *search, from places) places {
		for {
			further := from | part(s, from)
			if further == from {
				return from
			}
			from = further
		}
	}
}

func oneOf(pieces []string) (look, []string) {
	piece := pieces[0]
	switch {
	case piece == "(":
		inside, rest := choiceOf(pieces[1:])
		return inside, rest[1:]
	case piece == "[":
		inside, rest := choiceOf(pieces[1:])
		return func(s *search, from places) places { return from | inside(s, from) }, rest[1:]
	case piece[0] == '"':
		return tokenLook(func(token string) bool { return token == strings.Trim(piece, `"`) }), pieces[1:]
	case piece[0] >= 'A' && piece[0] <= 'Z':
		return tokenLook(func(token string) bool { return kindOf(token) == piece }), pieces[1:]
	}
	return formLook(piece), pieces[1:]
}

func tokenLook(fit func(string) bool) look {
	return func(s *search, from places) places {
		var to places
		for at, token := range s.tokens {
			if from&(1<<at) != 0 && fit(token) {
				to |= 1 << (at + 1)
			}
		}
		return to
	}
}

func formLook(form string) look {
	return func(s *search, from places) places {
		var to places
		for at := range s.tokens {
			if from&(1<<at) != 0 {
				to |= s.lookAt(formAt{form, at})
			}
		}
		return to
	}
}

func (s *search) lookAt(key formAt) places {
	known, isKnown := s.found[key]
	if !isKnown {
		known = s.grammar[key.form](s, 1<<key.at)
		s.found[key] = known
	}
	return known
}

func kindOf(token string) string {
	words := " let rec in fun if then else match with end type do true false "
	switch first := token[0]; {
	case first == '\'':
		return "LETTER"
	case first >= '0' && first <= '9':
		return "NUMBER"
	case first >= 'A' && first <= 'Z':
		return "CONSTRUCTOR"
	case first >= 'a' && first <= 'z' && !strings.Contains(words, " "+token+" "):
		return "NAME"
	}
	return ""
}
