package kiln_test

import (
	"fmt"
	"slices"
	"strings"
	"testing"

	"kiln/api"
	"kiln/kiln"
)

// lists declares data that have letters, and no end.
const lists = "type list 'a = Nil | Cons 'a (list 'a) . "

// pairs declares data of two letters.
const pairs = "type pair 'a 'b = Pair 'a 'b . "

func wantTypes(t *testing.T, text string, want ...string) {
	t.Helper()
	textCall(kiln.Types).want(t, text, want)
	if _, place, errno := kiln.Matches(text); place != 0 || errno != api.OK {
		t.Errorf("Matches of %.80q: %d, %d", text, place, errno)
	}
}

// wantTypesError holds Matches to the errors of Types too.
func wantTypesError(t *testing.T, text string, place int, errno api.Errno) {
	t.Helper()
	textCall(kiln.Types).wantError(t, text, place, errno)
	if matches, gotPlace, gotErrno := kiln.Matches(text); len(matches) != 0 || gotPlace != place || gotErrno != errno {
		t.Errorf("Matches of %.80q: %v, %d, %d, want %d, %d", text, matches, gotPlace, gotErrno, place, errno)
	}
}

// wantType holds an expression to its type, alone and within other forms that say nothing of it.
func wantType(t *testing.T, ahead, expression, want string) {
	t.Helper()
	for _, frame := range []string{
		"let it = @ .", "let it = (@) .", "let it = () ; @ .", "let it = let u = 1 in @ .", "let it = (fun u -> u) (@) .",
		"let it = if true then @ else @ .", "let it = match 1 with | 1 -> @ | u -> @ end .", "let it = !(ref (@)) .",
	} {
		lines, place, errno := kiln.Types(ahead + strings.ReplaceAll(frame, "@", expression))
		if errno != api.OK || !slices.Equal(lines[len(lines)-1:], []string{"it : " + want}) {
			t.Errorf("%q in %q: %q, %d, %d, want %q", expression, frame, lines, place, errno, want)
		}
	}
}

// wantWrong holds declarations to be wrong, and to be told by their number: whatever stands behind them, and what is right ahead of them.
func wantWrong(t *testing.T, errno api.Errno, ahead string, declarations ...string) {
	t.Helper()
	for _, declaration := range declarations {
		for count := range 3 {
			text := ahead + strings.Repeat("do () . ", count) + declaration + " ."
			place := strings.Count(ahead, " . ") + count
			wantTypesError(t, text, place, errno)
			wantTypesError(t, text+" do nowhere . do Nowhere . do 1 .", place, errno)
		}
	}
}

func TestP5TheDocumentsExamples(t *testing.T) {
	wantTypes(t, "type list 'a = Nil | Cons 'a (list 'a) . let rec map f l = match l with | Nil -> Nil | Cons x r -> Cons (f x) (map f r) end . let id x = x . let r = ref 1 .",
		"map : ('a -> 'b) -> list 'a -> list 'b", "id : 'a -> 'a", "r : ref int")
	wantTypesError(t, "let r = ref (fun x -> x) .", 0, api.ErrType)
	wantTypesError(t, "let x = y .", 0, api.ErrName)
	wantTypesError(t, "do 1 .", 0, api.ErrType)
	wantTypesError(t, "let f x = x x .", 0, api.ErrType)
}

func TestP5TheErrorsOfTreesComeFirst(t *testing.T) {
	wantTypesError(t, strings.Repeat(" ", api.MaxText+1), 0, api.ErrLong)
	wantTypesError(t, "do nowhere . $", 13, api.ErrToken)
	wantTypesError(t, "do nowhere . do 1 . do .", 2, api.ErrForm)
	wantTypesError(t, "do nowhere . do ()", 1, api.ErrForm)
}

func TestP5TextsWithoutNames(t *testing.T) {
	for _, text := range []string{"", " # let x = 1 .", "do () .", "do put 1 . do () .", "type t = A .", lists + "do put 1 . " + pairs} {
		wantTypes(t, text)
	}
}

func TestP5PlainForms(t *testing.T) {
	for expression, want := range map[string]string{
		"0": "int", "999999999999999999": "int", "true": "bool", "false": "bool", "()": "unit",
		"put": "int -> unit", "get": "unit -> int", "put 1": "unit", "get ()": "int", "ref 1": "ref int", "ref (ref true)": "ref (ref bool)",
		"1 + 2": "int", "1 - 2": "int", "1 * 2": "int", "1 / 2": "int", "1 = 2": "bool", "1 < 2": "bool",
		"1 + 2 * get () - 3 / 4": "int", "1 + 1 = 2": "bool", "get () < 3": "bool",
		"if 1 < 2 then 3 else 4": "int", "if true then put else put": "int -> unit",
		"put 1 ; 2": "int", "() ; () ; true": "bool", "put 1 ; put 2": "unit",
		"ref 1 := 2": "unit", "ref true := (1 = 2)": "unit", "!(ref 1)": "int", "!!(ref (ref ()))": "unit", "!(ref put)": "int -> unit", "!(ref put) 1": "unit",
		"(fun x -> x + 1) 2": "int", "let x = 1 in x": "int", "let x = 1 in let y = x < 2 in y": "bool",
		"let rec f n = if n < 1 then 0 else f (n - 1) in f 3": "int", "let f x y = if x then y + 1 else 0 in f true": "int -> int",
		"match 1 with | 1 -> true | x -> x < 3 end": "bool", "match true with | true -> 1 | false -> 2 end": "int", "match () with | () -> 1 end": "int",
		"match put with | f -> f 1 end": "unit", "match ref 1 with | r -> !r end": "int",
	} {
		wantType(t, "", expression, want)
	}
}

func TestP5DataForms(t *testing.T) {
	const more = lists + pairs + "type color = Red | Green . type box 'a = Box (ref 'a) ('a -> 'a) . "
	for expression, want := range map[string]string{
		"Red": "color", "Cons 1 Nil": "list int", "Cons Red (Cons Green Nil)": "list color", "Cons (Cons 1 Nil) Nil": "list (list int)",
		"Pair 1 true": "pair int bool", "Pair (Pair 1 true) (Cons () Nil)": "pair (pair int bool) (list unit)",
		"Cons put Nil": "list (int -> unit)", "Box (ref 1) (fun x -> x)": "box int", "Pair put get": "pair (int -> unit) (unit -> int)",
		"match Cons 1 Nil with | Nil -> 0 | Cons x r -> x end":                                      "int",
		"match Pair 1 (Cons true Nil) with | Pair x (Cons y r) -> Pair y x end":                     "pair bool int",
		"match Box (ref 1) (fun x -> x) with | Box r f -> r := f !r ; r end":                        "ref int",
		"match Pair 1 true with | Pair 1 true -> Red | Pair _ false -> Green end":                   "color",
		"match Cons 1 (Cons 2 Nil) with | Cons _ r -> r | x -> x end":                               "list int",
		"match (match Red with | Red -> Pair 1 () end) with | Pair x () -> x end":                   "int",
		"(fun p -> match p with | Pair f x -> f x end) (Pair (fun n -> n < 1) 2)":                   "bool",
		"let rec len l = match l with | Nil -> 0 | Cons x r -> 1 + len r end in len (Cons put Nil)": "int",
	} {
		wantType(t, more, expression, want)
	}
}

func TestP5MostGeneralTypes(t *testing.T) {
	for declaration, want := range map[string]string{
		"let f = fun x -> x":                             "'a -> 'a",
		"let f x y = x":                                  "'a -> 'b -> 'a",
		"let f x y = y":                                  "'a -> 'b -> 'b",
		"let f g x = g x":                                "('a -> 'b) -> 'a -> 'b",
		"let f g x = g (g x)":                            "('a -> 'a) -> 'a -> 'a",
		"let f g x y = g y x":                            "('a -> 'b -> 'c) -> 'b -> 'a -> 'c",
		"let f x = ref x":                                "'a -> ref 'a",
		"let f r = !r":                                   "ref 'a -> 'a",
		"let f r x = r := x":                             "ref 'a -> 'a -> unit",
		"let f r = r := !r":                              "ref 'a -> unit",
		"let f x = if x then x else x":                   "bool -> bool",
		"let f x y z = if x then y else z":               "bool -> 'a -> 'a -> 'a",
		"let f x y = x ; y":                              "unit -> 'a -> 'a",
		"let f x = x + 1":                                "int -> int",
		"let f x y = x = y":                              "int -> int -> bool",
		"let f x y = x < y":                              "int -> int -> bool",
		"let rec f x = f x":                              "'a -> 'b",
		"let rec f x = x":                                "'a -> 'a",
		"let rec f x y = f y x":                          "'a -> 'a -> 'b",
		"let rec f x y = if true then x else f y x":      "'a -> 'a -> 'a",
		"let rec f g x = f g (g x)":                      "('a -> 'a) -> 'a -> 'b",
		"let f x = match x with | y -> y end":            "'a -> 'a",
		"let f x = match x with | _ -> 1 end":            "'a -> int",
		"let f x y = match x with | 1 -> y | z -> y end": "int -> 'a -> 'a",
		"let f x = match x with | y -> match y with | z -> fun w -> z end end": "'a -> 'b -> 'a",
		"let f = put":                      "int -> unit",
		"let f = ref":                      "'a -> ref 'a",
		"let f = fun u -> fun u -> u":      "'a -> 'b -> 'b",
		"let f x = let rec g y = g x in g": "'a -> 'a -> 'b",
	} {
		wantTypes(t, declaration+" .", "f : "+want)
	}
	for declaration, want := range map[string]string{
		"let f = Nil":                                                     "list 'a",
		"let f = Cons Nil Nil":                                            "list (list 'a)",
		"let f = Cons (fun x -> x) Nil":                                   "list ('a -> 'a)",
		"let f x = Cons x Nil":                                            "'a -> list 'a",
		"let f = Pair 1 Nil":                                              "pair int (list 'a)",
		"let f = Pair true Nil":                                           "pair bool (list 'a)",
		"let f = Pair () Nil":                                             "pair unit (list 'a)",
		"let f = Pair put (Pair Nil 1)":                                   "pair (int -> unit) (pair (list 'a) int)",
		"let f = Pair Nil Nil":                                            "pair (list 'a) (list 'b)",
		"let f p = match p with | Pair x y -> Pair y x end":               "pair 'a 'b -> pair 'b 'a",
		"let f p = match p with | Pair x y -> x y end":                    "pair ('a -> 'b) 'a -> 'b",
		"let f l = match l with | Cons x r -> x end":                      "list 'a -> 'a",
		"let f l = match l with | Cons (Cons x _) _ -> x end":             "list (list 'a) -> 'a",
		"let rec f x l = match l with | Nil -> x | Cons y r -> f y r end": "'a -> list 'a -> 'a",
		"let rec f g x l = match l with | Nil -> x | Cons y r -> g y (f g x r) end": "('a -> 'b -> 'b) -> 'b -> list 'a -> 'b",
	} {
		wantTypes(t, lists+pairs+declaration+" .", "f : "+want)
	}
}

func TestP5OpenLettersOfALet(t *testing.T) {
	wantTypes(t, "let f u = let id x = x in if id true then id 1 else id 2 .", "f : 'a -> int")
	wantTypes(t, "let f u = let id = fun x -> x in id id (id 1) .", "f : 'a -> int")
	wantTypes(t, "let f u = let rec g x = x in g put (g 1) .", "f : 'a -> unit")
	wantTypes(t, "let f u = let a = ref in let x = a 1 in let y = a true in if !y then !x else 2 .", "f : 'a -> int")
	wantTypes(t, lists+pairs+"let f u = let n = Nil in Pair (Cons 1 n) (Cons true n) .", "f : 'a -> pair (list int) (list bool)")
	wantTypes(t, lists+pairs+"let f u = let n = Cons (fun x -> x) Nil in match n with | Cons g r -> Pair g n end .", "f : 'a -> pair ('b -> 'b) (list ('c -> 'c))")
	wantTypes(t, pairs+"let f x = let k y = x in Pair (k 1) (k true) .", "f : 'a -> pair 'a 'a")
	wantTypes(t, pairs+"let f x = let k = fun y -> Pair x y in Pair (k 1) (k true) .", "f : 'a -> pair (pair 'a int) (pair 'a bool)")
	// Names one around another: what is open within one is open, or stands around it.
	wantTypes(t, pairs+"let f x = let g y = let h z = Pair x (Pair y z) in Pair (h 1) (h true) in Pair (g ()) (g 2) .",
		"f : 'a -> pair (pair (pair 'a (pair unit int)) (pair 'a (pair unit bool))) (pair (pair 'a (pair int int)) (pair 'a (pair int bool)))")
	wantTypes(t, "let id x = x . let f = id . let g = id id 1 .", "id : 'a -> 'a", "f : 'a -> 'a", "g : int")
	wantTypes(t, "let rec f x = x . let a = f 1 . let b = f true .", "f : 'a -> 'a", "a : int", "b : bool")
}

func TestP5ClosedLetters(t *testing.T) {
	wantWrong(t, api.ErrType, "",
		// The one type of a function's variable, and what is made of it.
		"let f g = if g true then g 1 else 2",
		"let f g = let h = g in if h true then h 1 else 2",
		"let f x = let y = x in y ; y + 1",
		"let f x = let g y = x in g 1 ; 1 + g 2",
		"let f x = let rec g y = x in g 1 ; 1 + g 2",
		// What is no value.
		"do let id = (fun x -> x) (fun x -> x) in id () ; put (id 1)",
		"do let id = if true then fun x -> x else fun x -> x in id () ; put (id 1)",
		"do let id = let y = 1 in fun x -> x in id () ; put (id 1)",
		"do let id = match 1 with | _ -> fun x -> x end in id () ; put (id 1)",
		"do let id = () ; fun x -> x in id () ; put (id 1)",
		"do let id = !(ref (fun x -> x)) in id () ; put (id 1)",
		"do let r = ref (fun x -> x) in r := (fun x -> x + 1) ; !r ()",
		// The one type of a `rec` within itself.
		"let rec f x = f 1 ; f true",
		"do let rec f x = f 1 ; f true in ()",
		// The variables of patterns.
		"do match fun x -> x with | id -> id () ; put (id 1) end",
	)
	wantWrong(t, api.ErrType, lists,
		"do let n = ref Nil in n := Cons 1 Nil ; n := Cons true Nil",
		"do let n = Cons (ref Nil) Nil in match n with | Cons r _ -> r := Cons 1 Nil ; r := Cons true Nil end",
		"do let n = Cons ((fun x -> x) Nil) Nil in (fun a -> fun b -> ()) (Cons (Cons 1 Nil) n) (Cons (Cons true Nil) n)",
		"do match Nil with | n -> (fun a -> fun b -> ()) (Cons 1 n) (Cons true n) end")
	// Closed is not wrong: one use, or several that agree.
	wantTypes(t, "let f u = let id = (fun x -> x) (fun x -> x) in id 1 + id 2 .", "f : 'a -> int")
	wantTypes(t, "do let r = ref (fun x -> x) in put (!r 1) .")
	wantTypes(t, "let f g = let h = g in h 1 + h 2 .", "f : (int -> int) -> int")
	// A function around opens them.
	wantTypes(t, lists+"let f u = ref Nil .", "f : 'a -> ref (list 'b)")
	wantTypes(t, "let f u = let id = (fun x -> x) (fun x -> x) in id .", "f : 'a -> 'b -> 'b")
}

func TestP5LettersLeft(t *testing.T) {
	wantWrong(t, api.ErrType, lists+"let id x = x . ",
		"let r = ref (fun x -> x)", "let r = ref Nil", "let n = id Nil", "let f = id id", "let l = Cons (ref Nil) Nil", "let l = Cons (id id) Nil",
		"let x = let r = ref Nil in r", "let x = if true then Nil else Nil", "let x = () ; Nil", "let x = !(ref Nil)", "let x = match 1 with | _ -> Nil end",
		"let x = let rec f y = f y in f 1", "let f = let y = 1 in fun x -> x")
	wantTypes(t, lists+"let id x = x . let a = id (Cons 1 Nil) . let b = ref (Cons 1 Nil) . let c = id put . let d = let r = ref Nil in r := Cons 1 Nil ; r .",
		"id : 'a -> 'a", "a : list int", "b : ref (list int)", "c : int -> unit", "d : ref (list int)")
	// Letters that do not stand in the type of the name say nothing.
	wantTypes(t, lists+"let x = let r = ref Nil in 1 . do let r = ref Nil in () . let y = (fun z -> 1) (ref Nil) .", "x : int", "y : int")
}

func TestP5TypesThatHoldThemselves(t *testing.T) {
	wantWrong(t, api.ErrType, lists,
		"let f x = x x", "let f x = x (x x)", "let rec f x = f", "let rec f x y = f x", "let f r = r := r", "let f x = x := ref x", "let f x = !x x", "let f x = x !x",
		"let f x = Cons x x", "let f x = match x with | Cons y r -> Cons x r end", "let f x y = x y ; y x", "let f g = g (fun x -> g)", "let rec f x = f f",
		"let f x = if true then x else Cons x Nil", "let f x = match x with | Cons y z -> match z with | w -> y w ; w y end end")
	wantTypes(t, "let id x = x . let f = fun x -> id id x .", "id : 'a -> 'a", "f : 'a -> 'a")
	wantTypes(t, "let f x y = x (y x) .", "f : ('a -> 'b) -> (('a -> 'b) -> 'a) -> 'b")
}

func TestP5HowTypesAreWritten(t *testing.T) {
	const data = lists + pairs + "type fn 'a 'b = Fn ('a -> 'b) . type none = None . "
	for declaration, want := range map[string]string{
		"let f x = x + 1":                               "int -> int",
		"let f x y z = x + y + z":                       "int -> int -> int -> int",
		"let f g = g 1 + 1":                             "(int -> int) -> int",
		"let f g = g put + 1":                           "((int -> unit) -> int) -> int",
		"let f g h = g (h 1) + 1":                       "('a -> int) -> (int -> 'a) -> int",
		"let f u = put":                                 "'a -> int -> unit",
		"let f u = ref put":                             "'a -> ref (int -> unit)",
		"let f u = ref ref":                             "'a -> ref ('b -> ref 'b)",
		"let f u = ref None":                            "'a -> ref none",
		"let f r = !r + 1":                              "ref int -> int",
		"let f r = !!r + 1":                             "ref (ref int) -> int",
		"let f r = !r 1 + 1":                            "ref (int -> int) -> int",
		"let f l = match l with | Cons None _ -> l end": "list none -> list none",
		"let f = Pair Nil None":                         "pair (list 'a) none",
		"let f = Pair None Nil":                         "pair none (list 'a)",
		"let f = Pair put (Pair 1 true)":                "pair (int -> unit) (pair int bool)",
		"let f = Cons (Pair put Nil) Nil":               "list (pair (int -> unit) (list 'a))",
		"let f = Fn (fun x -> Fn x)":                    "fn ('a -> 'b) (fn 'a 'b)",
	} {
		wantTypes(t, data+declaration+" .", "f : "+want)
	}
}

func TestP5LettersInTheOrderInWhichTheyComeFirst(t *testing.T) {
	wantTypes(t, pairs+"let f a b c = Pair c (Pair a b) .", "f : 'a -> 'b -> 'c -> pair 'c (pair 'a 'b)")
	wantTypes(t, pairs+"let f a b = Pair (b a) (b a) .", "f : 'a -> ('a -> 'b) -> pair 'b 'b")
	wantTypes(t, pairs+"let f p = match p with | Pair a b -> b end .", "f : pair 'a 'b -> 'b")
	// Each name begins with 'a again.
	wantTypes(t, "let f x y = y . let g x = f 1 x .", "f : 'a -> 'b -> 'b", "g : 'a -> 'a")
	for _, count := range []int{1, 25, 26, 27, 28, 51, 52, 53, 77, 78, 79, 98} {
		var names, letters []string
		for i := range count {
			names = append(names, fmt.Sprint("x", i))
			letters = append(letters, letterName(i))
		}
		wantTypes(t, "let f "+strings.Join(names, " ")+" = x0 .", "f : "+strings.Join(letters, " -> ")+" -> 'a")
	}
}

func TestP5NamesDeclaredAgain(t *testing.T) {
	wantTypes(t, "let f x = x . let f = f 1 . let f = f < 2 .", "f : 'a -> 'a", "f : int", "f : bool")
	wantTypes(t, "let put = true . let x = put .", "put : bool", "x : bool")
	wantTypes(t, "let ref x = x + 1 . let x = ref 1 .", "ref : int -> int", "x : int")
	wantTypes(t, "let x = let x = 1 in let x = x < 2 in x .", "x : bool")
	wantTypes(t, "let x = true . let f x = x + 1 . let y = x .", "x : bool", "f : int -> int", "y : bool")
	wantTypes(t, "let x = true . let y = let x = 1 in x . let z = x .", "x : bool", "y : int", "z : bool")
	wantTypes(t, "let x = true . let y = match 1 with | x -> x | 2 -> if x then 3 else 4 end . let z = x .", "x : bool", "y : int", "z : bool")
	wantTypes(t, "let f x = x < 1 . let rec f x = if f x then x else x . ", "f : int -> bool", "f : bool -> bool")
	wantTypes(t, "let f x = x < 1 . let y = let rec f x = if f x then x else x in f true . let z = f 1 .", "f : int -> bool", "y : bool", "z : bool")
	wantTypes(t, "let f = fun put -> fun get -> put get .", "f : ('a -> 'b) -> 'a -> 'b")
}

// TestP8WhatStandsBehindChangesNoType: the answers of a program begin with those of what it begins with.
func TestP8WhatStandsBehindChangesNoType(t *testing.T) {
	declarations := strings.SplitAfter(lists+"let id x = x . let n = Nil . let rec map f l = match l with | Nil -> Nil | Cons x r -> Cons (f x) (map f r) end . "+
		"let c = Cons 1 n . let d x = map id x . let e = d (Cons true n) . let id = id 2 . do put id .", " . ")
	whole, _, errno := kiln.Types(strings.Join(declarations, ""))
	if errno != api.OK || len(whole) != 7 {
		t.Fatalf("the whole: %q, %d", whole, errno)
	}
	for count := range declarations {
		part, _, errno := kiln.Types(strings.Join(declarations[:count], ""))
		if errno != api.OK || len(part) > len(whole) || !slices.Equal(part, whole[:len(part)]) {
			t.Errorf("of the first %d: %q, %d, want what %q begins with", count, part, errno, whole)
		}
	}
}
