package cover_test

import (
	"maps"
	"math/rand"
	"reflect"
	"slices"
	"strings"
	"testing"

	"kiln/api"
	"kiln/cover"
	"kiln/tree"
)

// variant is one of the values of a type, or many of them: a name, and the types of its parts.
type variant struct {
	kind  tree.Kind
	name  string
	parts []string
}

// kinds has the variants of all types. The number 9 stands for all that no pattern names.
func kinds() map[string][]variant {
	all := map[string][]variant{
		"int":  {{tree.Number, "0", nil}, {tree.Number, "1", nil}, {tree.Number, "2", nil}, {tree.Number, "9", nil}},
		"bool": {{tree.Bool, "true", nil}, {tree.Bool, "false", nil}},
		"unit": {{tree.Unit, "()", nil}},
	}
	for _, declaration := range []string{
		"color = Red | Green | Blue", "opt = No | Yes bool", "list = Nil | Cons color list", "numbers = End | Next int numbers", "endless = More endless",
		"pair = Pair opt list", "three = Three bool bool bool", "five = Five bool bool bool bool bool", "mix = One unit | Two three color | Deep mix endless", "fn = Fn function", "function = Unseen",
	} {
		name, variants, _ := strings.Cut(declaration, " = ")
		for _, written := range strings.Split(variants, " | ") {
			words := strings.Fields(written)
			all[name] = append(all[name], variant{tree.Con, words[0], words[1:]})
		}
	}
	return all
}

// value is a value down to a depth: what is deeper has no name, and only what fits anything fits it.
type value struct {
	name  string
	parts []value
}

func valuesOf(kind string, depth int) []value {
	if depth == 0 {
		return []value{{}}
	}
	var values []value
	for _, v := range kinds()[kind] {
		rows := [][]value{nil}
		for _, part := range v.parts {
			var longer [][]value
			for _, row := range rows {
				for _, next := range valuesOf(part, depth-1) {
					longer = append(longer, append(slices.Clone(row), next))
				}
			}
			rows = longer
		}
		for _, row := range rows {
			values = append(values, value{v.name, row})
		}
	}
	return values
}

func fits(pattern *tree.Node, v value) bool {
	if pattern.Kind == tree.Wild || pattern.Kind == tree.Variable {
		return true
	}
	if pattern.Text != v.name {
		return false
	}
	for i, part := range pattern.Parts {
		if !fits(part, v.parts[i]) {
			return false
		}
	}
	return true
}

// lookAtAll gives each value to the rows.
func lookAtAll(match *tree.Node, values []value) api.Match {
	taken := make([]int, len(match.Parts)-1)
	var found api.Match
	for _, v := range values {
		row := slices.IndexFunc(match.Parts[1:], func(row *tree.Node) bool { return fits(row.Parts[0], v) })
		if row < 0 {
			found.Missing = true
			continue
		}
		taken[row]++
	}
	for row, count := range taken {
		if count == 0 {
			found.Idle = append(found.Idle, row)
		}
	}
	return found
}

type dice struct{ random *rand.Rand }

func (d dice) roll(sides int) int { return d.random.Intn(sides) }

// pattern asks for nothing about once in so many times, and below the depth.
func (d dice) pattern(kind string, depth, times int) *tree.Node {
	if depth == 0 || kind == "function" || d.roll(times) == 0 {
		if d.roll(2) == 0 {
			return tree.New(tree.Wild, "_")
		}
		return tree.New(tree.Variable, "x")
	}
	variants := kinds()[kind]
	if kind == "int" {
		variants = variants[:3]
	}
	v := variants[d.roll(len(variants))]
	var parts []*tree.Node
	for _, part := range v.parts {
		parts = append(parts, d.pattern(part, depth-1, times))
	}
	return tree.New(v.kind, v.name, parts...)
}

func (d dice) match(kind string, depth, rows int) *tree.Node {
	parts := []*tree.Node{tree.New(tree.Variable, "v")}
	times := 2 + d.roll(4)
	for range rows {
		parts = append(parts, tree.New(tree.Row, "", d.pattern(kind, depth, times), tree.New(tree.Unit, "()")))
	}
	return tree.New(tree.Match, "", parts...)
}

// variantCounts has for each constructor how many variants its type has.
func variantCounts() map[string]int {
	counts := map[string]int{}
	for _, variants := range kinds() {
		for _, v := range variants {
			counts[v.name] = len(variants)
		}
	}
	return counts
}

// TestP6RandomMatchesAgainstAllValues also counts what comes out, so that the look is not held against nothing.
func TestP6RandomMatchesAgainstAllValues(t *testing.T) {
	d := dice{rand.New(rand.NewSource(1))}
	counts := variantCounts()
	missing, idle, whole := 0, 0, 0
	for _, kind := range slices.Sorted(maps.Keys(kinds())) {
		if kind == "function" {
			continue
		}
		for depth := 1; depth <= 3; depth++ {
			values := valuesOf(kind, depth)
			for range 600 {
				match := d.match(kind, depth, 1+d.roll(api.MaxRows))
				got := cover.Look(match, func(constructor string) int { return counts[constructor] })
				want := lookAtAll(match, values)
				if !reflect.DeepEqual(got, want) {
					t.Fatalf("%s: %v, want %v", match, got, want)
				}
				switch {
				case got.Missing:
					missing++
				case len(got.Idle) > 0:
					idle++
				default:
					whole++
				}
			}
		}
	}
	if min(missing, idle, whole) < 500 {
		t.Errorf("%d with something missing, %d with idle rows, %d with neither", missing, idle, whole)
	}
}
