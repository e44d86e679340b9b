// Package kiln: a small language with types: see DOC.md.
package kiln

import (
	"kiln/api"
	"kiln/lex"
	"kiln/parse"
)

// Tokens cuts a text into tokens (P3).
func Tokens(text string) ([]string, int, api.Errno) { return lex.Cut(text) }

// Trees tells how a text is understood (P4).
func Trees(text string) ([]string, int, api.Errno) {
	declarations, place, errno := parse.Program(text)
	var trees []string
	for _, declaration := range declarations {
		trees = append(trees, declaration.String())
	}
	return trees, place, errno
}

// Types tells the types of a program's names (P5).
func Types(text string) ([]string, int, api.Errno) { return nil, 0, api.OK }

// Matches looks a program's matches over (P6).
func Matches(text string) ([]api.Match, int, api.Errno) { return nil, 0, api.OK }

// Run runs a program (P7).
func Run(text string, input string, steps int) (api.Result, int, api.Errno) {
	return api.Result{}, 0, api.OK
}
