package cover

import (
	"slices"

	"kiln/api"
	"kiln/tree"
)

// endless is the number of variants of a type of which no match can name all: it has fewer rows.
const endless = api.MaxRows + 1

// fitAll tells whether each value is fit by one of the rows. It looks at the values in lots, split by their variants at a place at which the first row asks for one.
func (v Variants) fitAll(rows []row) bool {
	if len(rows) == 0 {
		return false
	}
	place := slices.IndexFunc(rows[0], func(pattern *tree.Node) bool { return pattern != nil })
	return place < 0 || v.fitAllAt(rows, place)
}

// fitAllAt makes several lots only if each variant is asked for by some row, and that row is left to one of them alone: since rows are few, so are lots. Where a variant is asked for by no row, the rows that ask nothing there must fit all of its values, and then they fit all those of the others too.
func (v Variants) fitAllAt(rows []row, place int) bool {
	asked := askedAt(rows, place)
	if len(asked) < v.count(asked[0]) {
		return v.fitAll(othersAt(rows, place))
	}
	for _, variant := range asked {
		if !v.fitAll(variantAt(rows, place, variant)) {
			return false
		}
	}
	return true
}

// count tells how many variants there are where a pattern asks for one.
func (v Variants) count(pattern *tree.Node) int {
	switch pattern.Kind {
	case tree.Number:
		return endless
	case tree.Bool:
		return 2
	case tree.Con:
		return v(pattern.Text)
	}
	return 1
}

// askedAt gives one pattern for each variant that is asked for at a place.
func askedAt(rows []row, place int) []*tree.Node {
	var variants []*tree.Node
	for _, r := range rows {
		pattern := r[place]
		if pattern != nil && !slices.ContainsFunc(variants, func(known *tree.Node) bool { return isSame(known, pattern) }) {
			variants = append(variants, pattern)
		}
	}
	return variants
}

// othersAt gives the rows that are left to values of a variant that no row asks for.
func othersAt(rows []row, place int) []row {
	var others []row
	for _, r := range rows {
		if r[place] == nil {
			others = append(others, slices.Concat(r[:place], r[place+1:]))
		}
	}
	return others
}

// variantAt gives the rows that are left to values of one variant, with the parts of the variant as places.
func variantAt(rows []row, place int, variant *tree.Node) []row {
	var left []row
	for _, r := range rows {
		pattern := r[place]
		if pattern != nil && !isSame(pattern, variant) {
			continue
		}
		next := slices.Concat(r[:place], r[place+1:])
		for at := range variant.Parts {
			next = append(next, part(pattern, at))
		}
		left = append(left, next)
	}
	return left
}
