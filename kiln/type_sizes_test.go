package kiln_test

import (
	"fmt"
	"slices"
	"strings"
	"testing"

	"kiln/api"
	"kiln/kiln"
)

// ofSize gives an expression whose type has that size: a function, of two for each of its arguments.
func ofSize(size int) string {
	answer := "1"
	if size%2 == 0 {
		answer = "Nil"
	}
	arguments := (size - 1) / 2
	if arguments == 0 {
		return answer
	}
	return "(fun" + strings.Repeat(" x", arguments) + " -> " + answer + ")"
}

// wantGreatestSize holds a declaration, with the type int, to be typed if what stands for the @ has a type up to that size.
func wantGreatestSize(t *testing.T, declaration string, size int, ofSize func(int) string) {
	t.Helper()
	ahead := lists + pairs
	fitting := ahead + strings.ReplaceAll(declaration, "@", ofSize(size)) + " ."
	if lines, place, errno := kiln.Types(fitting); errno != api.OK || !slices.Equal(lines, []string{"f : int"}) {
		t.Errorf("%q with a type of the size %d: %q, %d, %d", declaration, size, lines, place, errno)
	}
	for _, above := range []int{1, 2, 20} {
		larger := ahead + strings.ReplaceAll(declaration, "@", ofSize(size+above)) + " ."
		wantTypesError(t, larger, strings.Count(larger, " . "), api.ErrType)
	}
}

func TestP5TheGreatestSize(t *testing.T) {
	for _, name := range []string{"let f", "let rec f"} {
		long := name + strings.Repeat(" x", 99) + " = "
		letters := []string{}
		for i := range 99 {
			letters = append(letters, letterName(i))
		}
		ahead := "f : " + strings.Join(letters, " -> ") + " -> "
		wantTypes(t, lists+long+"1 .", ahead+"int")
		wantTypes(t, lists+long+"Nil .", ahead+"list "+letterName(99))
		wantTypesError(t, lists+long+"Cons Nil Nil .", 1, api.ErrType)
		wantTypesError(t, lists+long+"put .", 1, api.ErrType)
		wantTypesError(t, lists+long+"fun x -> 1 .", 1, api.ErrType)
	}
}

// letterName is how the letter of that number (from 0 on) is written.
func letterName(number int) string {
	if number < 26 {
		return fmt.Sprintf("'%c", 'a'+number)
	}
	return fmt.Sprintf("'%c%d", 'a'+number%26, number/26)
}

// TestP5SizesOfAllThatHasAType: a type that is too large is none, whatever it is given to.
func TestP5SizesOfAllThatHasAType(t *testing.T) {
	for declaration, size := range map[string]int{
		"let f = let x = @ in 1":                                                                          200,
		"let f = match @ with | _ -> 1 end":                                                               200,
		"let f = match @ with | x -> 1 end":                                                               200,
		"let f = if true then 1 else let x = @ in 2":                                                      200,
		"let f = let x = Cons @ Nil in 1":                                                                 199, // list @
		"let f = match Cons @ Nil with | Cons _ r -> 1 | _ -> 2 end":                                      199,
		"let f = (fun x -> 1) @":                                                                          198, // @ -> int
		"let f = (fun x y -> 1) @ 2":                                                                      196, // @ -> int -> int
		"let f = let x = Pair 1 @ in 1":                                                                   198, // pair int @
		"let f = let x = fun y -> @ in 1":                                                                 198, // 'a -> @
		"let f = let s r = r := @ in 1":                                                                   197, // ref @ -> unit
		"let f = match ref @ with | x -> 1 end":                                                           99,  // @ -> ref @
		"let f = let id x = x in match id @ with | x -> 1 end":                                            99,  // @ -> @
		"let f = let x g = let y = if true then g else @ in 1 in 2":                                       198, // @ -> int
		"let f = let x g = match g with | h -> h := @ end in 2":                                           197, // ref @ -> unit
		"let f = let x g = let h u v w = g in let y = if true then g else @ in 1 in 2":                    194, // 'a -> 'b -> 'c -> @, which grows behind h
		"let f = let x g = let h u v w = g in let y = if true then g else @ in h in 2":                    96,  // @ -> 'a -> 'b -> 'c -> @
		"let f = let x g = match Pair g g with | Pair a b -> let y = if true then a else @ in 1 end in 2": 99,  // pair @ @
		"let f = let rec x g = let y = if true then g else @ in let z = if true then x else x in 1 in 2":  198, // @ -> int
	} {
		wantGreatestSize(t, declaration, size, ofSize)
	}
}

// writtenOfSize gives a type of that size as a declaration writes it.
func writtenOfSize(size int) string {
	answer := "int"
	if size%2 == 0 {
		answer = "ref int"
	}
	return "(" + strings.Repeat("int->", (size-1)/2) + answer + ")"
}

func TestP5SizesOfWhatIsWritten(t *testing.T) {
	for use, size := range map[string]int{
		"match A with | B _ -> 1 | A -> 2 end":              200,
		"match A with | B x -> 1 | A -> 2 end":              200,
		"let x = fun u -> B u in 1":                         198, // @ -> t
		"let x = fun u v -> B (if true then u else v) in 1": 98,  // @ -> @ -> t
	} {
		typed := func(size int) string { return "type t = A | B " + writtenOfSize(size) }
		wantGreatestSize(t, "@ . let f = "+use, size, typed)
	}
}

func TestP5ALargePartOfAnotherVariant(t *testing.T) {
	for _, size := range []int{200, 201, 1000} {
		data := "type t 'a = A | B " + writtenOfSize(size) + " | C 'a . "
		wantTypes(t, data+"let x = A . let y = C 1 . let f v = match v with | A -> 1 | C n -> n | _ -> 2 end .",
			"x : t 'a", "y : t int", "f : t int -> int")
	}
}

func TestP5SizesOfWhatIsChosenForLetters(t *testing.T) {
	const data = "type t 'a = A 'a | B ('a -> 'a -> 'a) . "
	wantGreatestSize(t, data+"let f = match A @ with | _ -> 1 end", 199, ofSize)                       // t @
	wantGreatestSize(t, data+"let f = match A @ with | B _ -> 1 | _ -> 2 end", 66, ofSize)             // @ -> @ -> @
	wantGreatestSize(t, data+"let f = match B (fun a b -> @) with | _ -> 1 end", 66, ofSize)           // the same
	wantGreatestSize(t, data+"let f = let x = fun v -> match v with | B _ -> @ end in 1", 197, ofSize) // t 'a -> @
}

// manyLetters declares data of so many letters.
func manyLetters(count int) string {
	var data strings.Builder
	data.WriteString("type t")
	for i := range count {
		fmt.Fprintf(&data, " 'x%d", i)
	}
	data.WriteString(" = A . ")
	return data.String()
}

func TestP5DataOfManyLetters(t *testing.T) {
	letters := []string{}
	for i := range api.MaxSize - 1 {
		letters = append(letters, letterName(i))
	}
	wantTypes(t, manyLetters(api.MaxSize-1)+"let x = A .", "x : t "+strings.Join(letters, " "))
	wantTypesError(t, manyLetters(api.MaxSize)+"let x = A .", 1, api.ErrType)
	wantTypesError(t, manyLetters(api.MaxSize)+"let f x = match x with | A -> 1 end .", 1, api.ErrType)
	wantTypes(t, manyLetters(api.MaxSize)+"let x = 1 .", "x : int")
}

// TestP5TypesThatDouble: types grow beyond all numbers in a short text; they are refused, and at once.
func TestP5TypesThatDouble(t *testing.T) {
	for ahead, piece := range map[string]string{
		"let f x = ":                      "let x = fun g -> g x x in ",
		"let f x = # \n":                  "let x = Pair x x in ",
		"let f x = # r \n":                "let x = ref (Pair x x) in ",
		"let d x = Pair x x . let f x = ": "let d y = d (d y) in ",
		"let f x = # letters \n":          "fun x -> let y = (if true then x else Pair x x) in ",
	} {
		for _, count := range []int{7, 8, 20, 100} {
			text := pairs + ahead + strings.Repeat(piece, count) + "1 ."
			if len(text) > api.MaxText {
				continue
			}
			wantTypesError(t, text, strings.Count(text, " . "), api.ErrType)
		}
	}
}

// doubling is a function of so many arguments, whose types are found one after the other: each is twice the next one, and small as long as that is not known.
func doubling(arguments int, body string) string {
	var names, steps strings.Builder
	for i := range arguments {
		fmt.Fprintf(&names, " x%d", i)
		if i > 0 {
			fmt.Fprintf(&steps, "(let y=if true then x%d else Pair x%d x%d in());", i-1, i, i)
		}
	}
	return "(fun" + names.String() + " -> " + steps.String() + body + ")"
}

func TestP5TypesThatDoubleLate(t *testing.T) {
	wantTypes(t, pairs+"let f = "+doubling(2, "1")+" .", "f : pair 'a 'a -> 'a -> int")
	for _, count := range []int{7, 20, 60} {
		for _, body := range []string{"1", "x0", "put x0", "let z = x0 in 1", "let z u = x0 in z"} {
			wantTypesError(t, pairs+"let f = "+doubling(count, body)+" .", 1, api.ErrType)
			wantTypesError(t, pairs+"do (fun u -> ()) "+doubling(count, body)+" .", 1, api.ErrType)
		}
	}
	// Two of them that shall be one: they can't be gone over side by side either.
	for _, frame := range []string{"let f = if true then @ else @ .", "let f = match 1 with | 1 -> @ | _ -> @ end .", "let f = ref @ := @ .", "let f = Pair @ @ .", "let f g = g @ ; g @ ."} {
		wantTypesError(t, pairs+strings.ReplaceAll(frame, "@", doubling(34, "1")), 1, api.ErrType)
	}
}
