package types_test

import (
	"testing"

	"kiln/api"
	"kiln/types"
)

func list(part *types.Type) *types.Type { return types.Named("list", part) }

func number() *types.Type { return types.Named("int") }

// chain is a function of so many arguments.
func chain(arguments int, answer *types.Type) *types.Type {
	parts := []*types.Type{}
	for range arguments {
		parts = append(parts, number())
	}
	return types.Function(append(parts, answer)...)
}

func wantWritten(t *testing.T, found *types.Type, want string) {
	t.Helper()
	if found.String() != want {
		t.Errorf("%s, want %s", found, want)
	}
}

func TestFunctionsOfSeveralArguments(t *testing.T) {
	wantWritten(t, types.Function(number()), "int")
	wantWritten(t, types.Function(number(), list(number())), "int -> list int")
	wantWritten(t, types.Function(chain(1, number()), number(), list(chain(1, number()))), "(int -> int) -> int -> list (int -> int)")
}

func TestUnifyFindsWhatLettersStandFor(t *testing.T) {
	a, b, c := types.NewLetter(0), types.NewLetter(0), types.NewLetter(0)
	one, other := types.Function(a, b, list(a)), types.Function(list(b), c, list(list(number())))
	if !types.Unify(one, other) {
		t.Fatalf("%s and %s are not one", one, other)
	}
	wantWritten(t, one, "list int -> int -> list (list int)")
	wantWritten(t, other, one.String())
}

func TestUnifyRefuses(t *testing.T) {
	a, b := types.NewLetter(0), types.NewLetter(0)
	for _, pair := range [][2]*types.Type{
		{number(), types.Named("bool")}, {number(), list(number())}, {chain(1, number()), number()}, {chain(1, number()), chain(2, number())},
		{a, list(a)}, {types.Function(a, b), types.Function(list(b), list(a))}, {types.NewLetter(0), chain(100, number())},
	} {
		if types.Unify(pair[0], pair[1]) {
			t.Errorf("%d, of two types that are not one", len(pair))
		}
	}
	if !types.Unify(a, a) || !types.Unify(types.NewLetter(0), chain(99, list(number()))) {
		t.Errorf("types that are one are refused")
	}
}

func TestFits(t *testing.T) {
	for arguments, fits := range map[int]bool{0: true, 98: true, 99: true, 100: false, 150: false} {
		if chain(arguments, number()).Fits() != fits {
			t.Errorf("%d arguments: %t", arguments, !fits)
		}
	}
	if !chain(99, list(number())).Fits() || chain(99, list(list(number()))).Fits() {
		t.Errorf("the sizes %d and %d", api.MaxSize, api.MaxSize+1)
	}
	// Each letter stands for two of the next one: counting all would never end.
	first := types.NewLetter(0)
	for letter, count := first, 0; count < 1000; count++ {
		next := types.NewLetter(0)
		if !types.Unify(letter, types.Function(next, next)) {
			t.Fatalf("letter %d", count)
		}
		letter = next
	}
	if first.Fits() || types.Unify(types.NewLetter(0), first) || types.Unify(number(), first) {
		t.Errorf("a type beyond all numbers fits")
	}
}

func TestOnlyLettersOfADeeperPlaceAreOpened(t *testing.T) {
	shallow, deep, lowered := types.NewLetter(0), types.NewLetter(1), types.NewLetter(1)
	scheme := types.Function(shallow, deep, lowered)
	if !types.Unify(shallow, list(lowered)) {
		t.Fatal("a letter can't be a list")
	}
	scheme.Open(0)
	instance := scheme.Instance(0)
	wantWritten(t, instance, "list 'a -> 'b -> 'a")
	if !types.Unify(instance, types.Function(list(number()), chain(1, number()), number())) {
		t.Fatal("an instance is refused")
	}
	wantWritten(t, scheme, "list int -> 'a -> int")
	wantWritten(t, scheme.Instance(0), "list int -> 'a -> int")
}

func TestHasLetters(t *testing.T) {
	if types.Function(number(), list(number())).HasLetters() || !types.Function(number(), list(types.NewLetter(0))).HasLetters() || !types.NewOpenLetter().HasLetters() {
		t.Errorf("letters are not told")
	}
}
