package kiln_test

import (
	"strings"
	"testing"

	"kiln/api"
)

func TestP5VariablesThatAreNotInScope(t *testing.T) {
	wantWrong(t, api.ErrName, lists,
		"let x = y", "let x = x", "let f x = f x", "do y", "let x = int", "let x = list", "do x . let x = ()",
		"let f x = g x . let g x = x", "let x = (let y = 1 in y) + y", "let x = let y = y in 1", "let x = let y = 1 in z",
		"let x = let f y = f y in 1", "let x = (let rec f y = f y in 1) + f 1", "let x = let rec f y = y in y",
		"let x = (fun y -> y) y", "let f x = if a then x else x", "let f x = if x then a else x", "let f x = if x then x else a",
		"do a ; ()", "do () ; a", "do a := 1", "do ref 1 := a", "do put !a", "let x = a + 1", "let x = 1 + a", "let x = a 1", "let x = put a",
		"let x = Cons a Nil", "let x = match a with | _ -> 1 end", "let x = match 1 with | _ -> a end",
		"let x = match 1 with | a -> a | b -> a end", "let x = (match 1 with | a -> a end) + a", "let x = match a with | a -> a end", "let x = match Nil with | Cons a b -> c end")
}

func TestP5ConstructorsAndTypesThatThereAreNot(t *testing.T) {
	wantWrong(t, api.ErrName, lists,
		"let x = Con", "let x = Con 1 2", "let x = Cons 1 Con", "let f x = match x with | Con -> 1 end", "let f x = match x with | Cons Con r -> 1 end",
		"let f x = match x with | _ -> Con end", "let x = Later . type t = Later", "type t = A foo", "type t = A (foo int)", "type t = A (int -> foo)",
		"type t = A (list foo)", "type t = A u . type u = B", "type t = A put", "let x = List", "type t 'a = A a")
}

func TestP5NamesThatAreThereAlready(t *testing.T) {
	wantWrong(t, api.ErrName, lists,
		"type list = A", "type list 'a = A", "type int = A", "type bool = A", "type unit = A", "type ref = A", "type ref 'a = A 'a",
		"type t = Nil", "type t = A | Cons", "type t = A | A", "type t = A | B | A int", "type t 'a 'a = A", "type t 'a 'b 'a = A 'b")
	wantTypesError(t, "type t = A . type t = B .", 1, api.ErrName)
	wantTypesError(t, "type t = A . type u = B | A .", 1, api.ErrName)
	// The spaces of names are three.
	wantTypes(t, "type put = A . let put = A . type a = Put . let int = 1 . let a = int .", "put : put", "int : int", "a : int")
	wantTypes(t, "type get 'put = Get 'put . let put = Get 1 .", "put : get int")
	// A letter is the declaration's own.
	wantTypes(t, "type t 'a = A 'a . type u 'a = B (t 'a) . let x = B (A 1) .", "x : u int")
}

func TestP5LettersThatAreNone(t *testing.T) {
	wantWrong(t, api.ErrName, lists,
		"type t = A 'a", "type t 'a = A 'b", "type t 'a = A ('a -> 'b)", "type t 'a = A ('b -> 'a)", "type t 'a = A (list 'b)", "type t 'a = A 'a | B 'a 'b", "type t 'a 'b = A 'a 'b 'c", "type t 'a = A 'a1")
}

func TestP5VariablesTwiceInAPattern(t *testing.T) {
	wantWrong(t, api.ErrName, lists,
		"let f p = match p with | Cons x x -> 1 end", "let f p = match p with | Cons x (Cons y x) -> 1 end", "let f p = match p with | Cons (Cons x y) (Cons z (Cons a y)) -> 1 end",
		"let f p = match p with | Nil -> 1 | Cons put put -> 2 end")
	wantTypes(t, lists+"let f p = match p with | Cons x (Cons _ _) -> x | Cons x _ -> x | x -> 1 end .", "f : list int -> int")
	wantTypes(t, "let f x x = x . let g = fun x x -> x . let rec h h = h .", "f : 'a -> 'b -> 'b", "g : 'a -> 'b -> 'b", "h : 'a -> 'a")
}

func TestP5NumbersOfParts(t *testing.T) {
	wantWrong(t, api.ErrArity, lists+pairs,
		"let x = Cons", "let x = Cons 1", "let x = Cons 1 Nil 2", "let x = Nil 1", "let x = (Cons) 1 Nil", "let x = (Cons 1) Nil", "let x = Cons 1 (Nil Nil)", "let f x = Pair x", "do put Cons",
		"let f x = match x with | Cons -> 1 end", "let f x = match x with | Cons a -> 1 end", "let f x = match x with | Cons a b c -> 1 end", "let f x = match x with | Nil a -> 1 end",
		"let f x = match x with | Cons a Cons -> 1 end", "let f x = match x with | Cons (Cons a) b -> 1 end", "let f x = match x with | 1 -> Cons 1 end",
		"type t = A list", "type t = A (list int int)", "type t = A (int int)", "type t = A (bool int)", "type t = A (unit unit)", "type t = A ref", "type t = A (ref int int)", "type t = A (list list)",
		"type t = A (list -> int)", "type t = A (int -> list)", "type t = A (pair int)", "type t = A (pair int int int)", "type t 'a = A t", "type t = A (t int)", "type t 'a = A (t 'a 'a)", "type t = A | B int (list (list (list)))")
	wantTypes(t, lists+pairs+"type t 'a = A (pair 'a (list (ref (t int)))) (list (t 'a) -> unit) .")
}

func TestP5WhatCannotBeTyped(t *testing.T) {
	wantWrong(t, api.ErrType, lists+pairs+"type color = Red . let id x = x . ",
		"do 1", "do true", "do put", "do Nil", "do ref ()", "do fun x -> ()", "do Red",
		"let x = 1 2", "let x = true 1", "let x = () ()", "let x = (Nil) 1", "let x = (Red) 1", "let x = ref 1 2", "let x = put 1 2",
		"let x = put true", "let x = put ()", "let x = get 1", "let x = get true", "let x = id 1 2", "let x = (fun y -> y + 1) true",
		"let x = 1 + true", "let x = true + 1", "let x = () - 1", "let x = 1 - put", "let x = Red * 1", "let x = 1 * Red", "let x = true / 1", "let x = 1 / ()",
		"let x = () = ()", "let x = true = 1", "let x = 1 = false", "let x = true < false", "let x = 1 < true", "let x = Nil < 1", "let x = put = put", "let x = (1 < 2) + 3",
		"let x = if 1 then 2 else 3", "let x = if () then 2 else 3", "let x = if true then 2 else ()", "let x = if true then true else 1", "let x = if Red then 1 else 2",
		"let x = 1 ; 2", "let x = true ; 2", "let x = get () ; 2", "let x = put ; 2", "let f x = (x + 1) ; x",
		"let x = 1 := 2", "let x = ref 1 := true", "let x = ref true := 1", "let x = put := 1", "let x = (ref 1 := 2) + 1", "let x = ref := 1",
		"let x = !1", "let x = !put", "let x = !!(ref 1)", "let x = !(ref 1) 2", "let x = 1 + !(ref true)", "let x = !ref",
		"let x = Cons 1 1", "let x = Cons 1 (Cons true Nil)", "let x = Cons Nil (Cons 1 Nil)", "let x = match Pair 1 true with | Pair a b -> a + b end", "let x = 1 + Pair 1 2",
		"let f x = let y = x + 1 in if x then y else y", "let f x = let g y = y + 1 in g true",
		"let x = let rec f y = if f y then 1 else 2 in 1", "let rec f x = if x then 1 else f 1")
}

func TestP5PatternsThatCannotBeTyped(t *testing.T) {
	wantWrong(t, api.ErrType, lists+pairs+"type color = Red . type hue = Blue . ",
		"let x = match 1 with | true -> 2 end", "let x = match true with | 1 -> 2 end", "let x = match () with | 1 -> 2 end", "let x = match 1 with | () -> 2 end", "let x = match put with | 1 -> 2 end",
		"let x = match Red with | Blue -> 1 end", "let x = match Red with | 1 -> 1 end", "let x = match 1 with | Red -> 1 end", "let x = match put with | Red -> 1 end",
		"let f x = match x with | 1 -> 2 | true -> 3 end", "let f x = match x with | Red -> 2 | Blue -> 3 end", "let f x = match x with | Nil -> 1 | 2 -> 3 end", "let f x = match x with | () -> 1 | true -> 3 end",
		"let f x = match x with | Cons 1 (Cons true r) -> 3 end", "let f x = match x with | Cons 1 r -> 2 | Cons true r -> 3 end", "let f x = match x with | Cons x 1 -> 2 end", "let f x = match x with | Pair 1 y -> 1 | Pair y 1 -> y + 1 | Pair true _ -> 1 end",
		"let x = match 1 with | 1 -> 2 | y -> true end", "let x = match 1 with | y -> y | z -> () end", "let x = (match 1 with | y -> y end) ; 1",
		"let f x = match x with | Cons y r -> y + r end", "let f x = match x with | Cons y r -> r + 1 end", "let f x = match x with | true -> x + 1 | y -> 2 end", "let f x = match x with | y -> if y then x + 1 else 2 end")
}

// TestP5TheErrorNamedFirst: within one declaration, whatever order the faults stand in.
func TestP5TheErrorNamedFirst(t *testing.T) {
	name, count, kind := "nowhere", "(Cons 1)", "(1 + true)"
	frames := []string{"do (fun a b -> ()) @ @", "let x = Pair @ @", "do if @ then @ else ()", "do let y = @ in @", "do @ ; @", "do match @ with | _ -> @ end", "let f x = @ := @", "let rec f x = @ @"}
	fill := func(frame, first, second string) string {
		return strings.Replace(strings.Replace(frame, "@", first, 1), "@", second, 1)
	}
	for _, frame := range frames {
		wantWrong(t, api.ErrName, lists+pairs, fill(frame, name, count), fill(frame, count, name), fill(frame, name, kind), fill(frame, kind, name))
		wantWrong(t, api.ErrArity, lists+pairs, fill(frame, count, kind), fill(frame, kind, count))
	}
	wantWrong(t, api.ErrName, lists,
		"do Cons true ; y", "let f x = match x with | Cons a -> b end", "let f x = match x with | Cons -> 1 | Cons y y -> 2 end", "let f x = match x with | Cons -> Con end",
		"type t = A list | B foo", "type t = A foo | B list", "type t = A list 'a", "type t 'a 'a = A list", "type t = A list | A", "type t = A list | Nil", "type int = A list", "type t = A (list foo int)")
	wantWrong(t, api.ErrArity, lists, "let x = 1 + true ; Cons 1", "let x = let r = ref Nil in Cons r", "let f x = x x (Cons 1)", "let f x = match x with | true -> 1 | 2 -> Nil 2 end")
}

func TestP5TheFirstDeclarationThatIsWrong(t *testing.T) {
	// Each of them is wrong: the first one counts, whatever its error is.
	for at, errno := range []api.Errno{api.ErrType, api.ErrArity, api.ErrName} {
		wrong := []string{"do 1 . ", "do Nil 1 . ", "do nowhere . "}
		text := lists + "do () . " + wrong[at] + wrong[(at+1)%3] + wrong[(at+2)%3]
		wantTypesError(t, text, 2, errno)
	}
	wantTypesError(t, "let x = true . let y = x + 1 . let z = y .", 1, api.ErrType)
	// A name of a declaration that is wrong is not told either.
	wantTypesError(t, "let x = 1 . let y = 2 . let z = x y .", 2, api.ErrType)
}
