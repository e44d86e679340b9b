// Package cover looks matches over: which values their rows leave out, and which rows are left none.
package cover

import (
	"kiln/api"
	"kiln/tree"
)

// Variants tells how many variants the type of a constructor has.
type Variants func(constructor string) int

// row has what a row asks of a value, at some places in it; each row of a match has the same places. Nil asks nothing.
type row []*tree.Node

// Look tells what is wrong with a match.
func Look(match *tree.Node, variants Variants) api.Match {
	var found api.Match
	var ahead []*tree.Node
	for number, matchRow := range match.Only(tree.Row) {
		pattern := asked(matchRow.Parts[0])
		if variants.fitAll(rowsWithin(pattern, ahead)) {
			found.Idle = append(found.Idle, number)
		}
		ahead = append(ahead, pattern)
	}
	found.Missing = !variants.fitAll(rowsWithin(nil, ahead))
	return found
}

// asked gives a pattern, or nil if it asks nothing.
func asked(pattern *tree.Node) *tree.Node {
	if pattern.Kind == tree.Wild || pattern.Kind == tree.Variable {
		return nil
	}
	return pattern
}

// part gives what a pattern asks of one part of a value.
func part(pattern *tree.Node, at int) *tree.Node {
	if pattern == nil {
		return nil
	}
	return asked(pattern.Parts[at])
}

// isSame tells whether two patterns ask for the same number, word or constructor.
func isSame(one, other *tree.Node) bool { return one.Kind == other.Kind && one.Text == other.Text }

// rowsWithin gives what patterns ask of the values that another pattern fits, without those that fit none of them.
func rowsWithin(frame *tree.Node, patterns []*tree.Node) []row {
	var rows []row
	for _, pattern := range patterns {
		if r, fits := within(frame, pattern, nil); fits {
			rows = append(rows, r)
		}
	}
	return rows
}

// within adds what a pattern asks at the places at which the frame asks nothing.
func within(frame, pattern *tree.Node, r row) (row, bool) {
	if frame == nil {
		return append(r, pattern), true
	}
	fits := pattern == nil || isSame(frame, pattern)
	for at := 0; fits && at < len(frame.Parts); at++ {
		r, fits = within(asked(frame.Parts[at]), part(pattern, at), r)
	}
	return r, fits
}
