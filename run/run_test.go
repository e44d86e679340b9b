package run

import (
	"slices"
	"testing"

	"kiln/api"
)

func TestEndOf(t *testing.T) {
	for caught, want := range map[any]int{nil: api.Done, noRowFits: api.NoMatch, stepsAreOut: api.Over} {
		if got := EndOf(caught); got != want {
			t.Errorf("%v: %d, want %d", caught, got, want)
		}
	}
}

// TestOtherPanicsGoOn: a fault of kiln must not pass for the end of a program.
func TestOtherPanicsGoOn(t *testing.T) {
	for _, fault := range []any{"a fault", api.NoMatch, struct{}{}} {
		func() {
			defer func() {
				if caught := recover(); caught != fault {
					t.Errorf("%v became %v", fault, caught)
				}
			}()
			EndOf(fault)
		}()
	}
}

func TestScopesStayAsTheyAre(t *testing.T) {
	var outermost *scope
	one := outermost.with(1)
	two, other := one.with(2), one.with(3)
	if one.outwards(0) != 1 || two.outwards(0) != 2 || two.outwards(1) != 1 || other.outwards(0) != 3 || other.outwards(1) != 1 {
		t.Errorf("%v, %v, %v", one, two, other)
	}
}

// TestPartsOfConsShareNoMemory: the same code, worked out several times, makes data that stand apart.
func TestPartsOfConsShareNoMemory(t *testing.T) {
	made := []*data{}
	pair := con("Pair", variable(0), always(2), variable(1))
	for i := range 3 {
		var outermost *scope
		pair(outermost.with(i).with(10*i), func(v value) rest {
			made = append(made, v.(*data))
			return nil
		})
	}
	for i, d := range made {
		if len(d.parts) != 3 || d.parts[0] != 10*i || d.parts[1] != 2 || d.parts[2] != i {
			t.Errorf("made %d: %v", i, d.parts)
		}
	}
}

// TestFunctionsGoNoDeeper: what calls a function, or goes on behind it, is handed back before anything of it is done.
func TestFunctionsGoNoDeeper(t *testing.T) {
	var order []string
	body := func(_ *scope, then next) rest {
		order = append(order, "body")
		return then(unit{})
	}
	called := apply(func() { order = append(order, "step") }, fun(body), always(1))
	left := called(nil, func(value) rest {
		order = append(order, "behind")
		return nil
	})
	for left != nil {
		order = append(order, "loop")
		left = left()
	}
	want := []string{"step", "loop", "body", "loop", "behind"}
	if !slices.Equal(order, want) {
		t.Errorf("%v, want %v", order, want)
	}
}
