package kiln_test

import (
	"fmt"
	"math"
	"slices"
	"strings"
	"testing"

	"kiln/api"
	"kiln/kiln"
)

func runOf(t *testing.T, text, input string, steps int) api.Result {
	t.Helper()
	result, place, errno := kiln.Run(text, input, steps)
	if place != 0 || errno != api.OK {
		t.Fatalf("Run of %.200q with %d steps: %d, %d", text, steps, place, errno)
	}
	return result
}

// wantRun holds a program that ends to its end, and to what P8 says of fewer steps and of more.
func wantRun(t *testing.T, text, input string, want api.Result) {
	t.Helper()
	for _, steps := range []int{want.Steps, min(want.Steps+1, api.MaxSteps), api.MaxSteps} {
		if got := runOf(t, text, input, steps); got != want {
			t.Errorf("%.200q of %q with %d steps: %+v, want %+v", text, input, steps, got, want)
		}
	}
	for steps := range want.Steps {
		got := runOf(t, text, input, steps)
		if got.End != api.Over || got.Steps != steps || !strings.HasPrefix(want.Output, got.Output) {
			t.Errorf("%.200q of %q with %d steps, of which it needs %d: %+v", text, input, steps, want.Steps, got)
		}
	}
}

func wantDone(t *testing.T, text, output string, steps int) {
	t.Helper()
	wantRun(t, text, "", api.Result{Output: output, End: api.Done, Steps: steps})
}

func wantNoMatch(t *testing.T, text, output string, steps int) {
	t.Helper()
	wantRun(t, text, "", api.Result{Output: output, End: api.NoMatch, Steps: steps})
}

func wantOver(t *testing.T, text, output string, steps int) {
	t.Helper()
	want := api.Result{Output: output, End: api.Over, Steps: steps}
	if got := runOf(t, text, "", steps); got != want {
		t.Errorf("%.200q with %d steps: %+v, want %+v", text, steps, got, want)
	}
}

func TestP7TheDocumentsExamples(t *testing.T) {
	const count = "let rec f n = if n < 1 then () else (put (64 + n) ; f (n - 1)) . do f 3 ."
	wantDone(t, count, "CBA", 7)
	wantOver(t, count, "C", 3)
	wantRun(t, "do put (get () + 1) ; put (7 / 0) .", "A", api.Result{Output: "B\x00", Steps: 3})
}

func TestP7TextsThatDoNothing(t *testing.T) {
	for _, text := range []string{"", "# nothing", "let x = 1 .", lists + pairs, "do () .", "let f x = put x .", "let rec f x = f x .", "let r = fun x -> ref x . do () . let f = put ."} {
		wantDone(t, text, "", 0)
	}
}

// shown writes a number out: it goes down from 0, so that the least number has its digits too.
const shown = "let rec digits n = if 0 - 10 < n then put (48 - n) else (digits (n / 10) ; put (48 - (n - n / 10 * 10))) . " +
	"let show n = if n < 0 then (put 45 ; digits n) else digits (0 - n) . "

const bounds = "let least = 0 - 9 * 999999999999999999 - 223372036854775817 . let greatest = 0 - (least + 1) . "

func TestP7Numbers(t *testing.T) {
	for expression, want := range map[string]string{
		"0": "0", "007": "7", "999999999999999999": "999999999999999999", "000000000000000010": "10",
		"1 + 2": "3", "1 - 2": "-1", "6 * 7": "42", "2 + 3 * 4": "14", "(2 + 3) * 4": "20", "1 - 2 - 3": "-4", "100 / 10 / 5": "2", "7 - (2 - 3)": "8",
		"least": "-9223372036854775808", "greatest": "9223372036854775807",
		"greatest + 1": "-9223372036854775808", "least - 1": "9223372036854775807", "0 - least": "-9223372036854775808",
		"greatest + greatest": "-2", "least + least": "0", "greatest * 2": "-2", "greatest * greatest": "1", "least * least": "0", "least * (0 - 1)": "-9223372036854775808",
		"999999999999999999 * 999999999999999999": "-7527149226598858751",
		"999999999999999999 * 10":                 "-8446744073709551626",
		"7 / 2":                                   "3", "(0 - 7) / 2": "-3", "7 / (0 - 2)": "-3", "(0 - 7) / (0 - 2)": "3", "1 / 2": "0", "(0 - 1) / 2": "0", "6 / 3": "2",
		"7 / 0": "0", "0 / 0": "0", "(0 - 7) / 0": "0", "least / 0": "0", "greatest / 0": "0",
		"least / (0 - 1)": "-9223372036854775808", "greatest / (0 - 1)": "-9223372036854775807", "least / 1": "-9223372036854775808",
		"least / 2": "-4611686018427387904", "least / least": "1", "greatest / least": "0",
	} {
		got := runOf(t, shown+bounds+"do show ("+expression+") .", "", api.MaxSteps)
		if got.Output != want || got.End != api.Done {
			t.Errorf("%s: %+v, want %s", expression, got, want)
		}
	}
}

func TestP7Comparisons(t *testing.T) {
	for expression, want := range map[string]string{
		"1 < 2": "T", "2 < 1": "F", "1 < 1": "F", "0 - 1 < 0": "T", "0 < 0 - 1": "F", "least < greatest": "T", "greatest < least": "F", "least - 1 < 0": "F",
		"1 = 1": "T", "1 = 2": "F", "0 - 1 = 1": "F", "01 = 1": "T", "least = greatest + 1": "T", "least = 0": "F", "greatest < greatest + 1": "F",
		"true": "T", "false": "F",
	} {
		wantDone(t, bounds+"do put (if "+expression+" then 84 else 70) .", want, 1)
	}
}

func TestP7PutModulo256(t *testing.T) {
	for number, want := range map[string]string{
		"0": "\x00", "65": "A", "127": "\x7f", "128": "\x80", "255": "\xff", "256": "\x00", "257": "\x01", "321": "A", "65536": "\x00",
		"(0 - 1)": "\xff", "(0 - 128)": "\x80", "(0 - 255)": "\x01", "(0 - 256)": "\x00", "(0 - 257)": "\xff", "(0 - 191)": "A",
		"least": "\x00", "(least + 65)": "A", "greatest": "\xff", "999999999999999999": "\xff",
	} {
		wantDone(t, bounds+"do put "+number+" .", want, 1)
	}
	// It is the number that is cut, not what is done with it before.
	wantDone(t, "let x = 321 . do put x ; put (x / 2) .", "A\xa0", 2)
	wantDone(t, "do match put 1 with | () -> put 66 end .", "\x01B", 2)
}

func TestP7GetUpToTheEndAndBehindIt(t *testing.T) {
	const three = shown + "do show (get ()) ; put 32 ; show (get ()) ; put 32 ; show (get ()) ."
	for input, want := range map[string]string{
		"":             "-1 -1 -1",
		"A":            "65 -1 -1",
		"\x00":         "0 -1 -1",
		"\xff\x80":     "255 128 -1",
		"abc":          "97 98 99",
		"abcdef":       "97 98 99",
		"é":            "195 169 -1",
		"\n\r\x00":     "10 13 0",
		"\xff\xff\xff": "255 255 255",
	} {
		if got := runOf(t, three, input, api.MaxSteps); got.Output != want || got.End != api.Done {
			t.Errorf("of %q: %+v, want %q", input, got, want)
		}
	}
	wantRun(t, "let a = get () . let f u = get () . let b = f () . do put b ; put a ; put (f ()) .", "xyz", api.Result{Output: "yxz", Steps: 8})
	// What is not asked for says nothing.
	wantRun(t, "do put 65 .", "xyz", api.Result{Output: "A", Steps: 1})
	wantRun(t, "let g = get . let p = put . do p (g ()) .", "x", api.Result{Output: "x", Steps: 2})
}

func TestP7Echo(t *testing.T) {
	const echo = "let rec f u = let c = get () in if c < 0 then () else (put c ; f ()) . do f () ."
	everything := make([]byte, 256)
	for i := range everything {
		everything[i] = byte(i)
	}
	for _, input := range []string{"", "a", "\xff", "a\x00b", string(everything)} {
		wantRun(t, echo, input, api.Result{Output: input, Steps: 3*len(input) + 2})
	}
	long := strings.Repeat("0123456789", 200000)
	if got := runOf(t, echo, long, api.MaxSteps); got != (api.Result{Output: long[:1333], End: api.Over, Steps: api.MaxSteps}) {
		t.Errorf("of a long input: %d bytes, %d, %d", len(got.Output), got.End, got.Steps)
	}
}

// TestP7TheOrderOfWorkingOut: each part puts a letter of its own when it is worked out.
func TestP7TheOrderOfWorkingOut(t *testing.T) {
	for text, want := range map[string]string{
		// The function ahead of its argument, both ahead of what the function does.
		"do (put 65 ; fun x -> put 67) (put 66) .":                                         "ABC",
		"do (put 65 ; put) (put 66 ; 67) .":                                                "ABC",
		"do put ((put 65 ; get) (put 66) + 68) .":                                          "ABC",
		"do let r = (put 65 ; ref) (put 66) in put 67 .":                                   "ABC",
		"let f x y z = put 69 . do (put 65 ; f) (put 66) (put 67) (put 68) .":              "ABCDE",
		"let f x = put 66 ; fun y -> put 68 . do f (put 65) (put 67) .":                    "ABCD",
		"let f x = put x ; x + 1 . do put (f (f (f 65))) .":                                "ABCD",
		"do (fun x -> put 66 ; x) (fun u -> put 67 ; u) (put 65) .":                        "BAC",
		"do (fun u -> put 67) ((fun u -> put 66) ((fun u -> put 65) ())) .":                "ABC",
		"let f = put 65 ; fun x -> put x . do f 66 ; f 67 .":                               "ABC",
		pairs + "let f p = put 67 . do f (Pair (put 65) (put 66)) .":                       "ABC",
		lists + "let l = Cons (put 65) (put 66 ; Cons (put 67) (put 68 ; Nil)) . ":         "ABCD",
		"type t = T unit unit unit unit . let x = T (put 65) (put 66) (put 67) (put 68) .": "ABCD",
		// Both sides, the left one first, whatever binds more.
		"let x = (put 65 ; 1) + (put 66 ; 2) .":                                        "AB",
		"let x = (put 65 ; 1) - (put 66 ; 2) .":                                        "AB",
		"let x = (put 65 ; 1) * (put 66 ; 2) .":                                        "AB",
		"let x = (put 65 ; 1) / (put 66 ; 0) .":                                        "AB",
		"let x = (put 65 ; 1) = (put 66 ; 2) .":                                        "AB",
		"let x = (put 65 ; 1) < (put 66 ; 2) .":                                        "AB",
		"let x = (put 65 ; 1) + (put 66 ; 2) * (put 67 ; 3) < (put 68 ; 4) .":          "ABCD",
		"let x = (put 65 ; 1) - ((put 66 ; 2) - (put 67 ; 3)) .":                       "ABC",
		"do (put 65 ; ref 1) := (put 66 ; 2) .":                                        "AB",
		"let r = ref 65 . do (put (!r) ; r := 66 ; r) := (put (!r) ; 67) ; put (!r) .": "ABC",
		"let r = ref (ref 65) . do !r := (r := ref 66 ; 67) ; put (!(!r)) .":           "B",
		// In the order in which they are written, and nothing that is not taken.
		"do if (put 65 ; true) then put 66 else put 67 .":                                                   "AB",
		"do if (put 65 ; false) then put 66 else put 67 .":                                                  "AC",
		"do put 65 ; put 66 ; put 67 .":                                                                     "ABC",
		"do (put 65 ; put 66) ; put 67 .":                                                                   "ABC",
		"do let x = put 65 in put 66 .":                                                                     "AB",
		"do let x = put 65 in let y = put 66 in x ; y ; put 67 .":                                           "ABC",
		"do let f x = put 66 in put 65 ; f () .":                                                            "AB",
		"do let rec f x = put 66 in put 65 ; f () .":                                                        "AB",
		"do match (put 65 ; 1) with | 0 -> put 66 | 1 -> put 67 | _ -> put 68 end ; put 69 .":               "ACE",
		"do match (match (put 65) with | _ -> put 66 ; 2 end) with | 1 -> put 67 | x -> put (66 + x) end .": "ABD",
		"do (!(put 65 ; ref (put 66 ; put))) (put 67 ; 68) .":                                               "ABCD",
		"let x = put 65 . do put 66 . let f u = put 68 . let y = put 67 . do f y .":                         "ABCD",
	} {
		if got := runOf(t, text, "", api.MaxSteps); got.Output != want || got.End != api.Done {
			t.Errorf("%q: %+v, want %q", text, got, want)
		}
	}
}

func TestP7TheFirstRowThatFits(t *testing.T) {
	for _, c := range []struct{ subject, rows, want string }{
		{"1", "1 -> 65 | 1 -> 66 | _ -> 67", "A"},
		{"2", "1 -> 65 | x -> 64 + x | 2 -> 67", "B"},
		{"3", "_ -> 65 | 3 -> 66", "A"},
		{"0 - 1", "1 -> 65 | 0 -> 66 | x -> 68 + x", "C"},
		{"7", "70 -> 65 | 007 -> 66 | _ -> 67", "B"},
		{"999999999999999999", "999999999999999998 -> 65 | 999999999999999999 -> 66 | _ -> 67", "B"},
		{"true", "false -> 65 | true -> 66", "B"},
		{"1 < 0", "true -> 65 | x -> if x then 66 else 67", "C"},
		{"()", "() -> 65 | _ -> 66", "A"},
		{"put 64", "_ -> 65", "@A"},
		{"Red", "Green -> 65 | Blue -> 66 | Red -> 67", "C"},
		{"Blue", "Green -> 65 | x -> match x with | Red -> 66 | Blue -> 67 end", "C"},
		{"Nil", "Cons x _ -> x | Nil -> 66", "B"},
		{"Cons 67 Nil", "Nil -> 65 | Cons 66 _ -> 66 | Cons x Nil -> x | _ -> 68", "C"},
		{"Cons 1 (Cons 2 (Cons 3 Nil))", "Cons x (Cons y Nil) -> 65 | Cons 1 (Cons y r) -> match r with | Cons z _ -> 61 + y + z end | _ -> 67", "B"},
		{"Pair 1 true", "Pair 1 false -> 65 | Pair 2 true -> 66 | Pair 1 true -> 67 | _ -> 68", "C"},
		{"Pair (Pair 1 2) (Pair 3 4)", "Pair (Pair a 1) _ -> 65 | Pair (Pair a b) (Pair c d) -> a * 1000 + b * 100 + c * 10 + d - 1234 + 66", "B"},
		{"Pair (Yes 1) No", "Pair No _ -> 65 | Pair _ (Yes x) -> 66 | Pair (Yes 2) No -> 67 | Pair (Yes x) No -> 67 + x", "D"},
		{"Node (Node Leaf 1 Leaf) 2 Leaf", "Leaf -> 65 | Node Leaf n _ -> 66 | Node l n (Node _ m _) -> 67 | Node (Node _ n _) m _ -> 65 + n + m", "D"},
		{"put", "f -> f 65 ; 66", "AB"},
		{"ref 1", "r -> r := 66 ; !r", "B"},
		{"Fn (fun x -> x + 1)", "Fn f -> f 65", "B"},
		{"Wrap (Wrap (Wrap 65))", "Wrap (Wrap (Wrap x)) -> x", "A"},
		// The variables of a row that does not fit are gone.
		{"Pair 66 (Pair 67 68)", "Pair x (Pair y 1) -> 1 | Pair _ (Pair x y) -> x", "C"},
		{"Pair 65 (Cons 66 Nil)", "Pair x (Cons y (Cons z r)) -> z | Pair y (Cons x _) -> put y ; x", "AB"},
	} {
		got := runOf(t, shapes+"do put (match "+c.subject+" with | "+c.rows+" end) .", "", api.MaxSteps)
		if got.Output != c.want || got.End != api.Done {
			t.Errorf("match %s with | %s end: %+v, want %q", c.subject, c.rows, got, c.want)
		}
	}
	twelve := ""
	for row := range api.MaxRows {
		twelve += fmt.Sprintf(" | %d -> put %d", row, 65+row)
	}
	wantDone(t, "do match 0 with"+twelve+" end ; match 11 with"+twelve+" end .", "AL", 2)
	wantNoMatch(t, "do match 12 with"+twelve+" end .", "", 0)
}

func TestP7PartsOfConsAreWhereTheyWereWritten(t *testing.T) {
	var numbers, names, puts, want string
	for i := range 26 {
		name := string(rune('a' + i))
		numbers += fmt.Sprint(" ", 65+i)
		names += " " + name
		puts += "put " + name + " ; "
		want += string(rune('A' + i))
	}
	wantDone(t, "type wide = Wide"+strings.Repeat(" int", 26)+" . do match Wide"+numbers+" with | Wide"+names+" -> "+puts+"() end .", want, 26)
}

func TestP7ScopesOfFunctions(t *testing.T) {
	for text, want := range map[string]string{
		// A function keeps the scope in which it was made.
		"let x = 65 . let f u = x . let x = 66 . do put (f ()) ; put x .":                                                   "AB",
		"let add x = fun y -> x + y . let a = add 1 . let b = add 2 . do put (a 64) ; put (b 64) ; put (a 65) .":            "ABB",
		"let f x = let y = x + 1 in fun z -> put x ; put y ; put z . let g = f 65 . let h = f 75 . do g 90 ; h 91 ; g 92 .": "ABZKL[AB\\",
		"let a = ref 65 . let f u = put (!a) . let a = ref 66 . do f () ; put (!a) .":                                       "AB",
		"do let x = 65 in let f = fun u -> x in let x = 66 in put (f ()) ; put x .":                                         "AB",
		"do let x = 65 in let f u = match 66 with | x -> put x end in f () ; put x .":                                       "BA",
		"let f x = match x with | y -> fun z -> put y ; put z end . let g = f 65 . do f 66 67 ; g 68 .":                     "BCAD",
		// The last one in scope counts.
		"let f x = fun x -> x . do put (f 65 66) .":                 "B",
		"let f x x = x . do put (f 65 66) .":                        "B",
		"do put (let x = 65 in let x = x + 1 in x) .":               "B",
		"do let x = 65 in (let x = 66 in put x) ; put x .":          "BA",
		"do let x = 65 in match 66 with | x -> put x end ; put x .": "BA",
		"let x = 65 . let x = x + 1 . let x = x + 1 . do put x .":   "C",
		"let f x = x + 1 . let f x = f (f x) . do put (f 65) .":     "C",
		"let put x = put (x + 1) . do put 65 .":                     "B",
		"let p = put . let put = fun x -> p 66 ; p x . do put 65 .": "BA",
		"let get = fun u -> 65 . do put (get ()) .":                 "A",
		"let ref = fun x -> x + 1 . do put (ref 65) .":              "B",
		"do let put = fun x -> () in put 65 .":                      "",
		"let ref = 65 . do put ref .":                               "A",
		// Names of other spaces are others.
		"type put = Put int . do match Put 65 with | Put put -> () end ; put 66 .": "B",
		"type x = X . let x = 65 . do match X with | X -> put x end .":             "A",
	} {
		if got := runOf(t, text, "", api.MaxSteps); got.Output != want || got.End != api.Done {
			t.Errorf("%q: %+v, want %q", text, got, want)
		}
	}
}

func TestP7FunctionsThatKnowThemselves(t *testing.T) {
	for text, want := range map[string]string{
		"let rec fact n = if n < 1 then 1 else n * fact (n - 1) . do show (fact 20) .":                                                  "2432902008176640000",
		"let rec fib n = if n < 2 then n else fib (n - 1) + fib (n - 2) . do show (fib 12) .":                                           "144",
		"let rec ack m n = if m = 0 then n + 1 else if n = 0 then ack (m - 1) 1 else ack (m - 1) (ack m (n - 1)) . do show (ack 2 3) .": "9",
		"do let rec sum n = if n = 0 then 0 else n + sum (n - 1) in show (sum 100) .":                                                   "5050",
		"let rec f n = let rec g m = if m = 0 then 0 else f (m - 1) + 1 in if n = 0 then 0 else g n + 1 . do show (f 9) .":              "18",
		// Itself, and not what its name stands for around it, or later.
		"let f x = 1 . let rec f x = if x = 0 then 5 else f (x - 1) . do show (f 3) .":                          "5",
		"let rec f x = if x = 0 then 5 else f (x - 1) . let g = f . let f x = 7 . do show (g 3) ; show (f 3) .": "57",
		"let f x = 1 . let f x = if x = 0 then 5 else f (x - 1) . do show (f 3) .":                              "1",
		"let rec f x = let f = fun y -> y in f x . do show (f 65) .":                                            "65",
		"let rec f f = f + 1 . do show (f 65) .":                                                                "66",
		"let rec f x y = if x = 0 then y else f (x - 1) (y + 2) . let g = f 3 . do show (g 1) ; show (g 2) .":   "78",
		// Two that know each other, by a cell.
		"let r = ref (fun n -> n + 0) . let even n = if n = 0 then 1 else !r (n - 1) . do r := (fun n -> if n = 0 then 0 else even (n - 1)) ; show (even 10) ; show (even 7) .": "10",
	} {
		if got := runOf(t, shown+text, "", api.MaxSteps); got.Output != want || got.End != api.Done {
			t.Errorf("%q: %+v, want %q", text, got, want)
		}
	}
}

func TestP7FunctionsAsValues(t *testing.T) {
	wantDone(t, "let twice f x = f (f x) . do put (twice twice (fun x -> x + 1) 65) .", "E", 12)
	wantDone(t, "let compose f g x = f (g x) . do compose put (fun x -> x + 1) 65 .", "B", 5)
	wantDone(t, lists+"let rec each f l = match l with | Nil -> () | Cons x r -> f x ; each f r end . do each put (Cons 65 (Cons 66 Nil)) .", "AB", 8)
	wantDone(t, lists+"let rec each f l = match l with | Nil -> () | Cons x r -> f x ; each f r end . do each (fun f -> f 65) (Cons put (Cons (fun x -> put (x + 1)) Nil)) .", "AB", 11)
	wantDone(t, "let f = if 1 < 2 then put else fun x -> () . do f 65 .", "A", 1)
	wantDone(t, "let cells f = f 65 . do put (!(cells ref)) .", "A", 3)
	wantDone(t, "let f x y z = x + y + z . let g = f 1 . let h = g 2 . do put (h 62) ; put (h 63) ; put (g 3 61) .", "ABA", 9)
}

func TestP7Cells(t *testing.T) {
	for text, want := range map[string]string{
		"let r = ref 65 . do put (!r) ; r := 66 ; put (!r) ; r := !r + 1 ; put (!r) .":                                                                                       "ABC",
		"let r = ref 1 . let s = r . do r := 66 ; put (!s) ; s := !r + 1 ; put (!r) .":                                                                                       "BC",
		"let r = ref 65 . let s = ref (!r) . do r := 66 ; put (!s) ; put (!r) .":                                                                                             "AB",
		"let f r = r := !r + 1 . let r = ref 65 . do f r ; f r ; put (!r) .":                                                                                                 "C",
		"let make x = ref 65 . let r = make () . let s = make () . do r := 66 ; put (!r) ; put (!s) .":                                                                       "BA",
		pairs + "let r = ref 65 . let p = Pair r r . do match p with | Pair a b -> a := 66 ; put (!b) ; put (!r) end .":                                                      "BB",
		lists + "let r = ref (Cons 65 Nil) . do r := Cons 66 (!r) ; r := Cons 67 (!r) ; match !r with | Cons x (Cons y (Cons z Nil)) -> put x ; put y ; put z end .":         "CBA",
		"let counter u = let n = ref 64 in fun v -> v ; n := !n + 1 ; !n . let a = counter () . let b = counter () . do put (a ()) ; put (a ()) ; put (b ()) ; put (a ()) .": "ABAC",
		"let r = ref (ref 65) . let s = !r . do r := ref 66 ; put (!s) ; put (!!r) ; s := 67 ; put (!!r) ; put (!s) .":                                                       "ABBC",
		"let r = ref put . do !r 65 ; r := (fun x -> put (x + 1)) ; !r 65 .":                                                                                                 "AB",
		"do match ref 65 := 66 with | () -> put 67 end .":                                                                                                                    "C",
		"let r = ref 65 . do (if true then r else ref 1) := 66 ; put (!r) .":                                                                                                 "B",
		"let r = ref 65 . let f = let s = r in fun u -> u ; s := !s + 1 . do f () ; f () ; put (!r) .":                                                                       "C",
	} {
		if got := runOf(t, text, "", api.MaxSteps); got.Output != want || got.End != api.Done {
			t.Errorf("%q: %+v, want %q", text, got, want)
		}
	}
}

func TestP7StepsOfEachForm(t *testing.T) {
	for text, steps := range map[string]int{
		"let x = 1 + 2 * 3 . let y = if x < 3 then 4 else 5 . do () ; () .":                0,
		lists + "let l = Cons 1 (Cons 2 Nil) . let x = match l with | Cons x _ -> x end .": 0,
		"let f x y = x + y .":                                       0,
		"do match fun r -> r := !r with | f -> () end .":            0,
		"let r = ref 1 .":                                           1,
		"do ref 1 := 2 .":                                           1,
		"let x = !(ref 1) .":                                        1,
		"let x = get () .":                                          1,
		"do (fun u -> ()) 1 .":                                      1,
		"let f x y z = x + y + z . let x = f 1 .":                   1,
		"let f x y z = x + y + z . let x = f 1 2 .":                 2,
		"let f x y z = x + y + z . let x = f 1 2 3 .":               3,
		"let f x = x . let y = f (f (f 1)) .":                       3,
		"let f x = x . let y = if true then f 1 else f (f (f 1)) .": 1,
		"let f x = x . let y = f f f 1 .":                           3,
	} {
		wantDone(t, text, "", steps)
	}
}

func TestP7NoMatch(t *testing.T) {
	for _, c := range []struct {
		text, output string
		steps        int
	}{
		{"do match 1 with | 2 -> () end .", "", 0},
		{"do put 65 ; match 3 with | 1 -> () | 2 -> () end ; put 66 .", "A", 1},
		{"do put 65 . let x = match true with | false -> 1 end . do put 66 .", "A", 1},
		{lists + "do match Nil with | Cons x r -> put 65 end ; put 66 .", "", 0},
		{lists + "let rec last l = match l with | Cons x Nil -> x | Cons x r -> last r end . do put (last (Cons 1 (Cons 65 Nil))) ; put (last Nil) ; put 66 .", "A", 4},
		{"let f x = put 65 ; match x with | 1 -> put 66 end . do f 1 ; f 2 ; f 1 .", "ABA", 5},
		// What is worked out ahead of it is done; what is not, is not.
		{"do put (match (put 65 ; 1) with | 0 -> put 66 ; 1 end) ; put 67 .", "A", 1},
		{"do (fun x -> put 67) (put 65 ; match 1 with | 2 -> put 66 end) .", "A", 1},
		{"let x = (put 65 ; 1) + match 0 with | 1 -> 2 end + (put 66 ; 2) .", "A", 1},
		{"do if match 1 with | 2 -> true end then put 65 else put 66 .", "", 0},
		{"do match match 1 with | 2 -> 3 end with | _ -> put 65 end .", "", 0},
		{"let f = fun u -> match u with | 1 -> () end . do put 65 .do f 2 . do put 66 .", "A", 2},
		{pairs + "do match Pair 1 (Pair true 2) with | Pair 1 (Pair true 3) -> () | Pair 2 _ -> () | Pair _ (Pair false _) -> () end .", "", 0},
	} {
		wantNoMatch(t, c.text, c.output, c.steps)
	}
	// A match that is never come to, or a function that is never called, says nothing.
	wantDone(t, "let f x = match 1 with | 2 -> x end . do if true then put 65 else match 1 with | 2 -> () end .", "A", 1)
}

func TestP7Over(t *testing.T) {
	const forever = "let rec f x = put 65 ; f x . do f () ."
	for _, steps := range []int{0, 1, 2, 3, 4, 5, 100, 3999, 4000} {
		wantOver(t, forever, strings.Repeat("A", steps/2), steps)
		wantOver(t, "let rec f x = f x . do f () .", "", steps)
		wantOver(t, "do put 66 . let rec f x = 1 + f x . do put (f ()) .", "B"[:min(steps, 1)], steps)
		wantOver(t, "let r = ref (fun x -> x + 0) . do r := (fun x -> !r x) ; put (!r 1) .", "", steps)
	}
	// The step that is one too many is not done; nor is anything behind it; what is no step ahead of it is.
	wantOver(t, "do put 65 .", "", 0)
	wantOver(t, "do put 65 ; put 66 .", "A", 1)
	wantOver(t, "do put (get ()) .", "", 1)
	wantOver(t, "do put 65 ; (fun x -> match 1 with | 2 -> () end) 1 .", "A", 1)
	wantNoMatch(t, "do put 65 ; (fun x -> match 1 with | 2 -> () end) 1 .", "A", 2)
	wantNoMatch(t, "do put 65 ; match 1 with | 2 -> put 66 end .", "A", 1)
	wantDone(t, "do put 65 . let x = 1 + 2 . do () .", "A", 1)
}

func TestP7StepsThatMayBe(t *testing.T) {
	for _, text := range []string{"", "do put 65 .", "let rec f x = f x . do f () ."} {
		for _, steps := range []int{math.MinInt, -4000, -1, api.MaxSteps + 1, 2 * api.MaxSteps, math.MaxInt} {
			if result, place, errno := kiln.Run(text, "x", steps); result != (api.Result{}) || place != 0 || errno != api.ErrSteps {
				t.Errorf("%q with %d steps: %+v, %d, %d", text, steps, result, place, errno)
			}
		}
		for _, steps := range []int{0, 1, api.MaxSteps - 1, api.MaxSteps} {
			runOf(t, text, "x", steps)
		}
	}
	if got := runOf(t, "let rec f n = if n = 1 then () else f (n - 1) . do f 4000 .", "", api.MaxSteps); got != (api.Result{Steps: api.MaxSteps}) {
		t.Errorf("as many steps as may be: %+v", got)
	}
	wantOver(t, "let rec f n = if n = 1 then () else f (n - 1) . do f 4001 .", "", api.MaxSteps)
}

func TestP7TheErrorsOfTypesComeFirst(t *testing.T) {
	for _, c := range []struct {
		text  string
		place int
		errno api.Errno
	}{
		{strings.Repeat(" ", api.MaxText+1), 0, api.ErrLong},
		{"do put 65 . a $", 14, api.ErrToken},
		{"do put 65 . let .", 1, api.ErrForm},
		{"do put 65 . do ()", 1, api.ErrForm},
		{"do put 65 . do nowhere .", 1, api.ErrName},
		{lists + "do put 65 . let x = Cons .", 2, api.ErrArity},
		{"do put 65 . do put 66 . do put true .", 2, api.ErrType},
		{"let rec f x = f x . do f () . let r = ref (fun x -> x) .", 2, api.ErrType},
		{"do match 1 with | 2 -> () end . do 1 .", 1, api.ErrType},
	} {
		for _, steps := range []int{math.MinInt, -1, 0, 100, api.MaxSteps, api.MaxSteps + 1, math.MaxInt} {
			if result, place, errno := kiln.Run(c.text, "x", steps); result != (api.Result{}) || place != c.place || errno != c.errno {
				t.Errorf("%.40q with %d steps: %+v, %d, %d, want %d, %d", c.text, steps, result, place, errno, c.place, c.errno)
			}
		}
	}
}

func TestP2RunsKnowNothingOfEachOther(t *testing.T) {
	const text = lists + "let r = ref 65 . let n = ref (Cons 1 Nil) . do r := !r + 1 ; n := Cons (get ()) (!n) ; put (!r) ; match !n with | Cons x (Cons 1 Nil) -> put x end ; put (get ()) ."
	for range 3 {
		wantRun(t, text, "xy", api.Result{Output: "Bxy", Steps: 7})
		wantRun(t, text, "z", api.Result{Output: "Bz\xff", Steps: 7})
	}
}

// TestP1DeepRuns: each of these is millions of forms deep before its steps are over.
func TestP1DeepRuns(t *testing.T) {
	deep := func(ahead, open, inmost, shut, behind string) string {
		room := api.MaxText - len(ahead+inmost+behind)
		count := room / len(open+shut)
		return ahead + strings.Repeat(open, count) + inmost + strings.Repeat(shut, count) + behind
	}
	for _, text := range []string{
		deep("let rec f x=f x", "+1", "", "", ".do put(f 1)."),
		deep("let rec f x=", "1-(", "f x", ")", ".do put(f 1)."),
		deep("type t=B t.let rec f x=", "B(", "f x", ")", ".do let y=f 1 in()."),
		deep("let rec f x=", "f(", "f x", ")", ".do put(f 1)."),
		deep("let rec f x=", "();", "f x", "", ".do f 1."),
		deep("let rec f x=", "(", "f x", ";())", ".do f 1."),
		deep("let rec f x=", "let y=", "f x", " in y", ".do put(f 1)."),
		deep("let rec f x=", "if ", "f x", " then true else false", ".do if f 1 then()else()."),
		deep("let rec f x=", "match ", "f x", " with|y->y end", ".do put(f 1)."),
		deep("let rec f x=", "ref 1:=(", "f x", ";1)", ".do f 1."),
		"let rec f x=let y=" + strings.Repeat(strings.Repeat("!", 190)+"(f", 20) + " x" + strings.Repeat(")", 20) + " in f y.do let z=f 1 in().",
	} {
		got := runOf(t, text, "", api.MaxSteps)
		if got != (api.Result{End: api.Over, Steps: api.MaxSteps}) {
			t.Errorf("%.60q: %+v", text, got)
		}
	}
	// All the way down, and up again.
	up := deep("let rec f n=if n<1 then 0 else f(n-1)", "+1", "", "", ".do put(f 3998).")
	count := strings.Count(up, "+1")
	if got := runOf(t, up, "", api.MaxSteps); got != (api.Result{Output: string([]byte{byte(3998 * count)}), Steps: api.MaxSteps}) {
		t.Errorf("down and up: %+v", got)
	}
}

func TestP7Programs(t *testing.T) {
	const sort = lists + `
		let rec read u = let c = get () in if c < 0 then Nil else Cons c (read ()) .
		let rec append a b = match a with | Nil -> b | Cons x r -> Cons x (append r b) end .
		let rec filter f l = match l with | Nil -> Nil | Cons x r -> if f x then Cons x (filter f r) else filter f r end .
		let rec sort l = match l with | Nil -> Nil | Cons x r -> append (sort (filter (fun y -> y < x) r)) (Cons x (sort (filter (fun y -> if y < x then false else true) r))) end .
		let rec each f l = match l with | Nil -> () | Cons x r -> f x ; each f r end .
		do each put (sort (read ())) .`
	for _, input := range []string{"", "a", "ba", "sorted by its bytes", "\xff\x00\x80\x7f"} {
		sorted := []byte(input)
		slices.Sort(sorted)
		if got := runOf(t, sort, input, api.MaxSteps); got.Output != string(sorted) || got.End != api.Done {
			t.Errorf("sorted %q: %+v", input, got)
		}
	}
	const sums = shown + `type sum = Number int | Plus sum sum | Times sum sum .
		let rec value s = match s with | Number n -> n | Plus a b -> value a + value b | Times a b -> value a * value b end .
		do show (value (Plus (Number 2) (Times (Number 5) (Plus (Number 3) (Number 5))))) .`
	if got := runOf(t, sums, "", api.MaxSteps); got.Output != "42" || got.End != api.Done {
		t.Errorf("a sum: %+v", got)
	}
}
