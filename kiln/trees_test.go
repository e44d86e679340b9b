package kiln_test

import (
	"slices"
	"strings"
	"testing"

	"kiln/api"
	"kiln/kiln"
)

func wantTrees(t *testing.T, text string, want ...string) {
	t.Helper()
	textCall(kiln.Trees).want(t, text, want)
}

func wantTreesError(t *testing.T, text string, place int, errno api.Errno) {
	t.Helper()
	textCall(kiln.Trees).wantError(t, text, place, errno)
}

// wantTree holds an expression to its tree wherever an expression may stand.
func wantTree(t *testing.T, expression, want string) {
	t.Helper()
	wantTrees(t, "do "+expression+" .", "(do "+want+")")
	wantTrees(t, "let x = "+expression+" .", "(let x "+want+")")
	wantTrees(t, "let rec f x = "+expression+" .", "(rec f (fun x "+want+"))")
	wantTrees(t, "do ("+expression+") .", "(do "+want+")")
	wantTrees(t, "do f ( (("+expression+") )) .", "(do (app f "+want+"))")
	wantTrees(t, "do if "+expression+" then "+expression+" else "+expression+" .", "(do (if "+want+" "+want+" "+want+"))")
	wantTrees(t, "do let y = "+expression+" in "+expression+" .", "(do (let y "+want+" "+want+"))")
	wantTrees(t, "do match "+expression+" with | _ -> "+expression+" | z -> "+expression+" end .",
		"(do (match "+want+" (row _ "+want+") (row z "+want+")))")
}

// wantNoForm holds pieces to be no declaration, and to be told by their number.
func wantNoForm(t *testing.T, pieces ...string) {
	t.Helper()
	for _, piece := range pieces {
		for ahead := range 3 {
			text := strings.Repeat("do x . ", ahead) + piece + " ."
			wantTreesError(t, text, ahead, api.ErrForm)
			wantTreesError(t, text+" do x . do .", ahead, api.ErrForm)
		}
	}
}

func TestP4TheDocumentsExamples(t *testing.T) {
	wantTrees(t, "let f x y = x + y * 2 . do put (f 1 2) ; () .",
		"(let f (fun x (fun y (+ x (* y 2)))))", "(do (seq (app put (app (app f 1) 2)) ()))")
	wantTreesError(t, "let x = . ", 0, api.ErrForm)
	wantTreesError(t, "let x = 1", 0, api.ErrForm)
	wantTrees(t, "type list 'a = Nil | Cons 'a (list 'a) . let rec map f l = match l with | Nil -> Nil | Cons x r -> Cons (f x) (map f r) end .",
		"(type list a (Nil) (Cons 'a (list 'a)))",
		"(rec map (fun f (fun l (match l (row (con Nil) (con Nil)) (row (con Cons x r) (con Cons (app f x) (app (app map f) r)))))))")
	wantTrees(t, "let rec f n = if n < 1 then () else (put (64 + n) ; f (n - 1)) .",
		"(rec f (fun n (if (< n 1) () (seq (app put (+ 64 n)) (app f (- n 1))))))")
}

func TestP4TextsWithoutDeclarations(t *testing.T) {
	for _, text := range []string{"", " ", "\n\t", "#", "# do x .\n"} {
		wantTrees(t, text)
	}
}

func TestP4Atoms(t *testing.T) {
	wantTree(t, "5", "5")
	wantTree(t, "true", "true")
	wantTree(t, "false", "false")
	wantTree(t, "()", "()")
	wantTree(t, "( #\n )", "()")
	wantTree(t, "x_1", "x_1")
	wantTree(t, "truex", "truex")
	wantTree(t, "A_1b", "(con A_1b)")
}

func TestP4NoughtsAheadOfANumber(t *testing.T) {
	for text, want := range map[string]string{
		"0": "0", "00": "0", "000000000000000000": "0", "01": "1", "007": "7", "10": "10", "0100": "100",
		"000000000000000001": "1", "100000000000000000": "100000000000000000", "999999999999999999": "999999999999999999",
	} {
		wantTree(t, text, want)
		wantTree(t, "match x with | "+text+" -> "+text+" | C "+text+" -> 1 end",
			"(match x (row "+want+" "+want+") (row (con C "+want+") 1))")
	}
}

func TestP4OperatorsOfEachLevel(t *testing.T) {
	for _, sign := range strings.Fields("+ - * / = <") {
		wantTree(t, "a "+sign+" b", "("+sign+" a b)")
	}
	wantTree(t, "a := b", "(set a b)")
	wantTree(t, "a ; b", "(seq a b)")
	wantTree(t, "!a", "(! a)")
}

func TestP4WhichOperatorBindsCloser(t *testing.T) {
	levels := [][]string{{";"}, {":="}, {"=", "<"}, {"+", "-"}, {"*", "/"}}
	head := func(sign string) string {
		switch sign {
		case ";":
			return "seq"
		case ":=":
			return "set"
		}
		return sign
	}
	for i, loose := range levels {
		for _, close := range levels[i+1:] {
			for _, l := range loose {
				for _, c := range close {
					wantTree(t, "p "+l+" q "+c+" r", "("+head(l)+" p ("+head(c)+" q r))")
					wantTree(t, "p "+c+" q "+l+" r", "("+head(l)+" ("+head(c)+" p q) r)")
					wantTree(t, "(p "+l+" q) "+c+" r", "("+head(c)+" ("+head(l)+" p q) r)")
					wantTree(t, "p "+c+" (q "+l+" r)", "("+head(c)+" p ("+head(l)+" q r))")
				}
			}
		}
	}
	for _, sign := range strings.Fields("; := = < + - * /") {
		wantTree(t, "f a "+sign+" g b", "("+head(sign)+" (app f a) (app g b))")
		wantTree(t, "C a "+sign+" D b", "("+head(sign)+" (con C a) (con D b))")
		wantTree(t, "!a "+sign+" !b", "("+head(sign)+" (! a) (! b))")
		wantTree(t, "f (a "+sign+" b)", "(app f ("+head(sign)+" a b))")
		wantTree(t, "! (a "+sign+" b)", "(! ("+head(sign)+" a b))")
	}
	wantTree(t, "a ; b := c = d + e * f g", "(seq a (set b (= c (+ d (* e (app f g))))))")
	wantTree(t, "a b * c + d < e := f ; g", "(seq (set (< (+ (* (app a b) c) d) e) f) g)")
}

func TestP4SeveralOfOneLevel(t *testing.T) {
	wantTree(t, "1 - 2 - 3", "(- (- 1 2) 3)")
	for _, level := range [][]string{{"+", "-"}, {"*", "/"}} {
		for _, first := range level {
			for _, second := range level {
				wantTree(t, "1 "+first+" 2 "+second+" 3", "("+second+" ("+first+" 1 2) 3)")
				wantTree(t, "1 "+first+" (2 "+second+" 3)", "("+first+" 1 ("+second+" 2 3))")
				wantTree(t, "1 "+first+" 2 "+second+" 3 "+first+" 4", "("+first+" ("+second+" ("+first+" 1 2) 3) 4)")
			}
		}
	}
	wantTree(t, "a ; b ; c ; d", "(seq a (seq b (seq c d)))")
	wantTree(t, "(a ; b) ; c", "(seq (seq a b) c)")
	wantTree(t, "f a b c", "(app (app (app f a) b) c)")
	wantTree(t, "f (a b) c", "(app (app f (app a b)) c)")
	wantTree(t, "!!!a", "(! (! (! a)))")
	wantTree(t, "1 * 2 + 3 / 4 - 5", "(- (+ (* 1 2) (/ 3 4)) 5)")
	wantTree(t, "(a = b) < c", "(< (= a b) c)")
	wantTree(t, "(a := b) := c", "(set (set a b) c)")
	wantNoForm(t, "do a = b = c", "do a < b < c", "do a = b < c", "do a < b = c", "do a := b := c", "do a := b = c = d")
}

func TestP4Applications(t *testing.T) {
	wantTree(t, "f a", "(app f a)")
	wantTree(t, "1 2", "(app 1 2)")
	wantTree(t, "true () false", "(app (app true ()) false)")
	wantTree(t, "(fun x -> x) 1", "(app (fun x x) 1)")
	wantTree(t, "f !a b", "(app (app f (! a)) b)")
	wantTree(t, "!f a", "(app (! f) a)")
	wantTree(t, "! (f a)", "(! (app f a))")
	wantTree(t, "f match x with | y -> z end a", "(app (app f (match x (row y z))) a)")
	wantTree(t, "!match x with | y -> z end", "(! (match x (row y z)))")
	wantTree(t, "match x with | y -> z end a", "(app (match x (row y z)) a)")
}

func TestP4ConstructorsAloneAndInBrackets(t *testing.T) {
	wantTree(t, "C", "(con C)")
	wantTree(t, "(C)", "(con C)")
	wantTree(t, "C 1", "(con C 1)")
	wantTree(t, "C 1 x D", "(con C 1 x (con D))")
	wantTree(t, "(C) 1", "(app (con C) 1)")
	wantTree(t, "((C)) 1 2", "(app (app (con C) 1) 2)")
	wantTree(t, "(C 1) 2", "(app (con C 1) 2)")
	wantTree(t, "C (D 1) 2", "(con C (con D 1) 2)")
	wantTree(t, "C (D) 1", "(con C (con D) 1)")
	wantTree(t, "C D 1", "(con C (con D) 1)")
	wantTree(t, "f C 1", "(app (app f (con C)) 1)")
	wantTree(t, "f (C 1)", "(app f (con C 1))")
	wantTree(t, "!C 1", "(app (! (con C)) 1)")
	wantTree(t, "!(C 1)", "(! (con C 1))")
	wantTree(t, "C !a !D", "(con C (! a) (! (con D)))")
	wantTree(t, "C () ()", "(con C () ())")
	wantTree(t, "C match C with | C -> C end", "(con C (match (con C) (row (con C) (con C))))")
}

func TestP4Functions(t *testing.T) {
	wantTree(t, "fun x -> x", "(fun x x)")
	wantTree(t, "fun x y z -> y", "(fun x (fun y (fun z y)))")
	wantTree(t, "fun x -> fun y -> x", "(fun x (fun y x))")
	wantTree(t, "fun x x -> x", "(fun x (fun x x))")
	wantTree(t, "fun x -> a ; b", "(fun x (seq a b))")
	wantTree(t, "a ; fun x -> b", "(seq a (fun x b))")
	wantTree(t, "(fun x -> a) ; b", "(seq (fun x a) b)")
	wantNoForm(t, "do fun -> x", "do fun x", "do fun x x", "do fun x ->", "do fun x fun y -> x", "do fun 1 -> x", "do fun _ -> x", "do fun C -> x",
		"do fun (x) -> x", "do fun () -> x", "do fun let -> x", "do fun x 1 -> x", "do f fun x -> x", "do 1 + fun x -> x", "do a := fun x -> x", "do ! fun x -> x", "do fun x = x")
}

func TestP4Lets(t *testing.T) {
	wantTree(t, "let x = 1 in x", "(let x 1 x)")
	wantTree(t, "let f x y = x in f", "(let f (fun x (fun y x)) f)")
	wantTree(t, "let rec f x = f x in f 1", "(rec f (fun x (app f x)) (app f 1))")
	wantTree(t, "let rec f x y z = f in f", "(rec f (fun x (fun y (fun z f))) f)")
	wantTree(t, "let x = a ; b in c ; d", "(let x (seq a b) (seq c d))")
	wantTree(t, "let x = let y = 1 in y in let z = 2 in z", "(let x (let y 1 y) (let z 2 z))")
	wantTree(t, "a ; let x = 1 in x ; b", "(seq a (let x 1 (seq x b)))")
	wantTree(t, "let x = a = b in x", "(let x (= a b) x)")
	wantTree(t, "(let x = 1 in x) + 1", "(+ (let x 1 x) 1)")
	wantNoForm(t, "do let x = 1", "do let x = 1 in", "do let x = 1 fun y -> y", "do let x = 1 let y = 2 in y", "do let x fun y -> y in x", "do let x in x", "do let x = in x", "do let = 1 in x", "do let C = 1 in x", "do let _ = 1 in x",
		"do let x 1 = 2 in x", "do let x _ = 2 in x", "do let rec f = 1 in f", "do let rec = 1 in f", "do let rec f x in f", "do let rec x = fun y -> y in x",
		"do f let x = 1 in x", "do 1 + let x = 1 in x", "do a := let x = 1 in x", "do let let x = 1 in x", "do let x = 1 in x in x", "do let f (x) = x in f")
}

func TestP4Ifs(t *testing.T) {
	wantTree(t, "if a then b else c", "(if a b c)")
	wantTree(t, "if a then b else c ; d", "(if a b (seq c d))")
	wantTree(t, "(if a then b else c) ; d", "(seq (if a b c) d)")
	wantTree(t, "if a ; b then c ; d else e", "(if (seq a b) (seq c d) e)")
	wantTree(t, "if a then if b then c else d else if e then f else g", "(if a (if b c d) (if e f g))")
	wantTree(t, "if fun x -> x then let y = 1 in y else fun z -> z", "(if (fun x x) (let y 1 y) (fun z z))")
	wantNoForm(t, "do if a then b", "do if a else b", "do if a then b else", "do if then b else c", "do if a then else c", "do a if b then c else d",
		"do if a fun x -> x else b", "do if a then b fun x -> x", "do if a let x = 1 in x else b", "do if a then b if c then d else e",
		"do 1 + if a then b else c", "do if a then b else c else d", "do then", "do else", "do a := if b then c else d")
}

func TestP4Matches(t *testing.T) {
	wantTree(t, "match x with | y -> z end", "(match x (row y z))")
	wantTree(t, "match x ; y with | a -> b ; c | d -> e end", "(match (seq x y) (row a (seq b c)) (row d e))")
	wantTree(t, "match x with | a -> fun b -> b | c -> if d then e else f | g -> let h = 1 in h end",
		"(match x (row a (fun b b)) (row c (if d e f)) (row g (let h 1 h)))")
	wantTree(t, "match match a with | b -> c end with | d -> match e with | f -> g end | h -> i end",
		"(match (match a (row b c)) (row d (match e (row f g))) (row h i))")
	wantTree(t, "1 + match x with | y -> 2 end * 3", "(+ 1 (* (match x (row y 2)) 3))")
	wantNoForm(t, "do match x with end", "do match x with | y -> z", "do match x | y -> z end", "do match with | y -> z end", "do match x with y -> z end",
		"do match x with | y -> z | end", "do match x with | y -> | z -> a end", "do match x with | y z end", "do match x with | y = z end",
		"do match x with | -> z end", "do match x with || y -> z end", "do match x with | y -> z end end", "do x with | y -> z end", "do x | y", "do end", "do match x with | y | z -> a end")
}

func TestP4Patterns(t *testing.T) {
	for pattern, want := range map[string]string{
		"_": "_", "x": "x", "7": "7", "true": "true", "false": "false", "()": "()", "C": "(con C)",
		"(x)": "x", "((_))": "_", "(( ))": "()", "(C)": "(con C)", "C x": "(con C x)", "(C x)": "(con C x)",
		"C _ x 07 true false () D": "(con C _ x 7 true false () (con D))",
		"C (D x) (E) y":            "(con C (con D x) (con E) y)",
		"C D x":                    "(con C (con D) x)",
		"C ((D (E _)))":            "(con C (con D (con E _)))",
		"C x x":                    "(con C x x)",
	} {
		wantTree(t, "match a with | "+pattern+" -> b end", "(match a (row "+want+" b))")
		wantTree(t, "match a with | x -> c | ("+pattern+") -> b end", "(match a (row x c) (row "+want+" b))")
		wantTree(t, "match a with | P ("+pattern+") -> b end", "(match a (row (con P "+want+") b))")
	}
	wantNoForm(t, "do match a with | -> b end", "do match a with | x -> c | -> b end")
	for _, pattern := range strings.Split("x y|1 2|(C) x|_ _|!x|x + y|- 1|C (x|C x)|C (x y)|(1 2)|'a|let|C let|fun x -> x|C -> x|x := y|match x with", "|") {
		wantNoForm(t, "do match a with | "+pattern+" -> b end", "do match a with | x -> c | P ("+pattern+") -> b end")
	}
}

func TestP4RowsOfAMatch(t *testing.T) {
	rows := func(count int) string { return "match x with" + strings.Repeat(" | _ -> y", count) + " end" }
	want := func(count int) string { return "(match x" + strings.Repeat(" (row _ y)", count) + ")" }
	for count := 1; count <= 12; count++ {
		wantTree(t, rows(count), want(count))
	}
	wantTree(t, rows(12)+" + "+rows(12), "(+ "+want(12)+" "+want(12)+")")
	wantTrees(t, "do match "+rows(12)+" with"+strings.Repeat(" | z -> "+rows(12), 12)+" end .",
		"(do (match "+want(12)+strings.Repeat(" (row z "+want(12)+")", 12)+"))")
	for _, count := range []int{0, 13, 14, 24, 100} {
		wantNoForm(t, "do "+rows(count), "let x = "+rows(count), "do match "+rows(count)+" with | _ -> 1 end",
			"do match x with | _ -> "+rows(count)+" end", "do "+rows(12)+" + "+rows(count), "do f (C "+rows(count)+")")
	}
}

func TestP4BracketsLeaveNoTrace(t *testing.T) {
	wantTree(t, "((((x))))", "x")
	wantTree(t, "(1 + 2) + 3", "(+ (+ 1 2) 3)")
	wantTree(t, "((f) (a)) (b)", "(app (app f a) b)")
	wantTree(t, "(a * b) + (c)", "(+ (* a b) c)")
	wantTree(t, "(())", "()")
	wantTree(t, "(()) (())", "(app () ())")
	wantTree(t, "if (a) then (b) else (c)", "(if a b c)")
	wantTrees(t, "type t 'a = A ('a) ((int)) (((int) -> ('a))) (t (('a))) .", "(type t a (A 'a (int) (-> (int) 'a) (t 'a)))")
	wantNoForm(t, "do (", "do )", "do (x", "do x)", "do ((x)", "do (x))", "do )(", "do ( ; )", "do (x y", "do f (", "do (x .", "do ( ) )")
}

func TestP4Declarations(t *testing.T) {
	wantTrees(t, "let x = 1 .", "(let x 1)")
	wantTrees(t, "let f x y = x .", "(let f (fun x (fun y x)))")
	wantTrees(t, "let f = fun x -> fun y -> x .", "(let f (fun x (fun y x)))")
	wantTrees(t, "let rec f x = f .", "(rec f (fun x f))")
	wantTrees(t, "let rec f x y = f .", "(rec f (fun x (fun y f)))")
	wantTrees(t, "let x = let y = 1 in y .", "(let x (let y 1 y))")
	wantTrees(t, "do x .", "(do x)")
	wantTrees(t, "do a ; b .", "(do (seq a b))")
	wantTrees(t, "let x=1.do x.type t=A.let rec f x=f.", "(let x 1)", "(do x)", "(type t (A))", "(rec f (fun x f))")
	wantTrees(t, strings.Repeat("do x.", 800), slices.Repeat([]string{"(do x)"}, 800)...)
	wantNoForm(t, "x", "1", "(do x)", "do", "do do x", "do _", "do 'a", "do type", "do x do y", "do let", "do a b in c", "rec f x = f", "fun x -> x", "in",
		"let", "let x", "let x =", "let = 1", "let X = 1", "let 1 = 1", "let _ = 1", "let 'a = 1", "let x 1", "let x 1 = 2", "let (x) = 1", "let x = 1 2 )", "let x = 1 in x",
		"let x := 1", "let let = 1", "let true = 1", "let rec", "let rec f", "let rec f x", "let rec f = 1", "let rec f = fun x -> x", "let rec f 1 = 1", "let rec f x = f in f", "let rec rec x = 1",
		"do a ;", "do ; a", "do a ; ; b", "do +", "do 1 +", "do + 1", "do - 1", "do 1 + + 2", "do 1 *", "do a =", "do = a", "do a :=", "do := a", "do !", "do a !", "do 1 !", "do -> x", "do a -> b")
}

func TestP4TypeDeclarations(t *testing.T) {
	wantTrees(t, "type t = A .", "(type t (A))")
	wantTrees(t, "type t = A | B | C .", "(type t (A) (B) (C))")
	wantTrees(t, "type t 'a 'b1_ = A .", "(type t a b1_ (A))")
	wantTrees(t, "type t 'a 'a = A 'a 'b .", "(type t a a (A 'a 'b))")
	wantTrees(t, "type list 'a = Nil | Cons 'a (list 'a) .", "(type list a (Nil) (Cons 'a (list 'a)))")
	for text, want := range map[string]string{
		"int":                            "(int)",
		"'a":                             "'a",
		"list int":                       "(list) (int)",
		"(list int)":                     "(list (int))",
		"(list)":                         "(list)",
		"(p 'a int (list 'b))":           "(p 'a (int) (list 'b))",
		"(p q r)":                        "(p (q) (r))",
		"(p (q r))":                      "(p (q (r)))",
		"('a -> 'b)":                     "(-> 'a 'b)",
		"('a -> 'b -> 'c)":               "(-> 'a (-> 'b 'c))",
		"(('a -> 'b) -> 'c)":             "(-> (-> 'a 'b) 'c)",
		"('a -> ('b -> 'c))":             "(-> 'a (-> 'b 'c))",
		"(list int -> list bool -> t)":   "(-> (list (int)) (-> (list (bool)) (t)))",
		"(list (int -> int) -> int)":     "(-> (list (-> (int) (int))) (int))",
		"int ('a -> int) 'b (ref (x y))": "(int) (-> 'a (int)) 'b (ref (x (y)))",
	} {
		wantTrees(t, "type t = A "+text+" .", "(type t (A "+want+"))")
		wantTrees(t, "type t 'c = Z | A "+text+" | B .", "(type t c (Z) (A "+want+") (B))")
	}
	wantNoForm(t, "type", "type t", "type t =", "type = A", "type T = A", "type 't = A", "type t a = A", "type t 'a", "type t 'a A", "type t (a) = A", "type t = a", "type t = 'a", "type t = (A)",
		"type t = | A", "type t = A |", "type t = A || B", "type t = A | b", "type t = A B", "type t = A (B)", "type t = A 1", "type t = A ()", "type t = A (int", "type t = A int)",
		"type t = A -> int", "type t = A int -> int", "type t = A (int ->)", "type t = A (-> int)", "type t = A (int -> -> int)", "type t = A ('a int)", "type t = A ((list) int)", "type t = A (int | int)",
		"type t = A (1)", "type t = A _", "type t = A true", "type t = A let", "type t = A = B", "type t = A (list 'a 1)", "type type = A", "type t = type u = A", "type t = A ; B")
}

func TestP4ErrorsOfTokensComeFirst(t *testing.T) {
	wantTreesError(t, "let . $", 6, api.ErrToken)
	wantTreesError(t, "let . do x . :", 13, api.ErrToken)
	wantTreesError(t, ") 'let", 2, api.ErrToken)
	wantTreesError(t, "1234567890123456789", 0, api.ErrToken)
	wantTreesError(t, strings.Repeat(")", api.MaxText+1), 0, api.ErrLong)
	wantTreesError(t, "do x ."+strings.Repeat(" ", api.MaxText), 0, api.ErrLong)
	wantTrees(t, "do x ."+strings.Repeat(" ", api.MaxText-6), "(do x)")
}

func TestP4TheFirstDeclarationWithoutTheForm(t *testing.T) {
	wantTreesError(t, ".", 0, api.ErrForm)
	wantTreesError(t, "..", 0, api.ErrForm)
	wantTreesError(t, "do x . .", 1, api.ErrForm)
	wantTreesError(t, "do x . . do y .", 1, api.ErrForm)
	wantTreesError(t, ". do x .", 0, api.ErrForm)
	wantTreesError(t, "do x . let . let .", 1, api.ErrForm)
	wantTreesError(t, "do x . do y . do z . do . do", 3, api.ErrForm)
	wantTreesError(t, "do (x . y) .", 0, api.ErrForm)
	wantTreesError(t, strings.Repeat("do x.", 799)+"do  .", 799, api.ErrForm)
}

func TestP4WhatStandsBehindTheLastPoint(t *testing.T) {
	for _, behind := range []string{"do x", "x", "let y = 1", "(", "type t = A", "end"} {
		for count := range 4 {
			wantTreesError(t, strings.Repeat("do x . ", count)+behind, count, api.ErrForm)
		}
		wantTreesError(t, "do x . do . do x . "+behind, 1, api.ErrForm)
	}
	wantTrees(t, "do x . # do y", "(do x)")
	wantTrees(t, "do x .\n\t ", "(do x)")
}

// TestP4DeepTexts: texts of nearly 4000 bytes whose forms lie deep within one another, whole and broken off.
func TestP4DeepTexts(t *testing.T) {
	for _, c := range []struct{ open, middle, close, openTree, closeTree string }{
		{"(", "x", ")", "", ""},
		{"f(", "x", ")", "(app f ", ")"},
		{"C(", "C", ")", "(con C ", ")"},
		{"!", "x", "", "(! ", ")"},
		{"a;", "x", "", "(seq a ", ")"},
		{"1+(", "x", ")", "(+ 1 ", ")"},
		{"fun x->", "x", "", "(fun x ", ")"},
		{"let x=1 in ", "x", "", "(let x 1 ", ")"},
		{"let x=", "x", " in x", "(let x ", " x)"},
		{"if a then b else ", "x", "", "(if a b ", ")"},
		{"match ", "x", " with|_->1 end", "(match ", " (row _ 1))"},
		{"match x with|_->", "x", " end", "(match x (row _ ", "))"},
	} {
		depth := (api.MaxText - len("do x.")) / len(c.open+c.close)
		opened := "do " + strings.Repeat(c.open, depth) + c.middle
		wantTrees(t, opened+strings.Repeat(c.close, depth)+".",
			"(do "+strings.Repeat(c.openTree, depth)+treeOfAtom(c.middle)+strings.Repeat(c.closeTree, depth)+")")
		wantTreesError(t, "do "+strings.Repeat(c.open, depth)+".", 0, api.ErrForm)
		if c.close != "" {
			wantTreesError(t, opened+".", 0, api.ErrForm)
			wantTreesError(t, opened+strings.Repeat(c.close, depth-1)+".", 0, api.ErrForm)
			wantTreesError(t, "do "+strings.Repeat(c.open, depth-1)+c.middle+strings.Repeat(c.close, depth)+".", 0, api.ErrForm)
		}
	}
	deep := (api.MaxText - len("type t=A int.")) / 2
	wantTrees(t, "type t=A "+strings.Repeat("(", deep)+"int"+strings.Repeat(")", deep)+".", "(type t (A (int)))")
	wantTreesError(t, "type t=A "+strings.Repeat("(", deep)+"int"+strings.Repeat(")", deep-1)+".", 0, api.ErrForm)
	deep = (api.MaxText - len("do match x with|y->z end.")) / 2
	wantTrees(t, "do match x with|"+strings.Repeat("(", deep)+"y"+strings.Repeat(")", deep)+"->z end.", "(do (match x (row y z)))")
	wantTreesError(t, "do match x with|"+strings.Repeat("(", deep)+"y"+strings.Repeat(")", deep-1)+"->z end.", 0, api.ErrForm)
}

func treeOfAtom(atom string) string {
	if atom == "C" {
		return "(con C)"
	}
	return atom
}
