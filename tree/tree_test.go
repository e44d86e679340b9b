package tree_test

import (
	"slices"
	"testing"

	"kiln/tree"
)

// sample is `let f = fun x -> x y in f 1`.
func sample() *tree.Node {
	variable := func(name string) *tree.Node { return tree.New(tree.Variable, name) }
	return tree.New(tree.Let, "f",
		tree.New(tree.Fun, "x", tree.New(tree.App, "", variable("x"), variable("y"))),
		tree.New(tree.App, "", variable("f"), tree.New(tree.Number, "1")))
}

func TestAllGoesOverNodesInTheOrderOfTheText(t *testing.T) {
	var kinds []tree.Kind
	for node := range sample().All() {
		kinds = append(kinds, node.Kind)
	}
	want := []tree.Kind{tree.Let, tree.Fun, tree.App, tree.Variable, tree.Variable, tree.App, tree.Variable, tree.Number}
	if !slices.Equal(kinds, want) {
		t.Errorf("%v, want %v", kinds, want)
	}
}

func TestAllStopsWhereItIsLeft(t *testing.T) {
	for stop := range 8 {
		count := 0
		for range sample().All() {
			if count == stop {
				break
			}
			count++
		}
		if count != stop {
			t.Errorf("%d nodes, want %d", count, stop)
		}
	}
}

func TestOnly(t *testing.T) {
	if apps := sample().Only(tree.App); len(apps) != 1 || apps[0].String() != "(app f 1)" {
		t.Errorf("%v", apps)
	}
	if rows := sample().Only(tree.Row); len(rows) != 0 {
		t.Errorf("%v", rows)
	}
}
