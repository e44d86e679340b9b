// Package kiln: a small language with types: see DOC.md.
package kiln

import (
	"kiln/api"
	"kiln/check"
	"kiln/cover"
	"kiln/lex"
	"kiln/parse"
	"kiln/run"
	"kiln/tree"
)

// Tokens cuts a text into tokens (P3).
func Tokens(text string) ([]string, int, api.Errno) { return lex.Cut(text) }

// Trees tells how a text is understood (P4).
func Trees(text string) ([]string, int, api.Errno) {
	declarations, place, errno := parse.Program(text)
	var trees []string
	for _, declaration := range declarations {
		trees = append(trees, declaration.String())
	}
	return trees, place, errno
}

// Types tells the types of a program's names (P5).
func Types(text string) ([]string, int, api.Errno) {
	program, place, errno := check.Read(text)
	if errno != api.OK {
		return nil, place, errno
	}
	var lines []string
	for _, binding := range program.Bindings {
		lines = append(lines, binding.Name+" : "+binding.Type.String())
	}
	return lines, 0, api.OK
}

// Matches looks a program's matches over (P6).
func Matches(text string) ([]api.Match, int, api.Errno) {
	program, place, errno := check.Read(text)
	if errno != api.OK {
		return nil, place, errno
	}
	var matches []api.Match
	for _, declaration := range program.Declarations {
		for node := range declaration.All() {
			if node.Kind == tree.Match {
				matches = append(matches, cover.Look(node, program.Variants))
			}
		}
	}
	return matches, 0, api.OK
}

// Run runs a program (P7).
func Run(text string, input string, steps int) (api.Result, int, api.Errno) {
	program, place, errno := check.Read(text)
	switch {
	case errno != api.OK:
		return api.Result{}, place, errno
	case steps < 0 || steps > api.MaxSteps:
		return api.Result{}, 0, api.ErrSteps
	}
	return resultOf(program, input, steps), 0, api.OK
}

// resultOf catches a run that gives up: what it has done till then is its result too.
func resultOf(program *check.Program, input string, steps int) (result api.Result) {
	machine := run.New(input, steps)
	defer func() { result = machine.Result(run.EndOf(recover())) }()
	machine.Work(program.Declarations)
	return result
}
