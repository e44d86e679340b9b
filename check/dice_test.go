package check_test

import (
	"fmt"
	"math/rand"
	"strings"
)

// dice makes programs at random, the same ones for the same seed. Most of their names are in scope, and many of them have types.
type dice struct{ random *rand.Rand }

func newDice(seed int64) *dice { return &dice{rand.New(rand.NewSource(seed))} }

func (d *dice) roll(sides int) int { return d.random.Intn(sides) }

func (d *dice) pick(texts ...string) string { return texts[d.roll(len(texts))] }

// rarely holds once in so many times.
func (d *dice) rarely(times int) bool { return d.roll(times) == 0 }

const data = "type list 'a = Nil | Cons 'a (list 'a) . type pair 'a 'b = Pair 'a 'b . type fn 'a = Fn ('a -> 'a) | Const (ref 'a) int . "

func (d *dice) program() string {
	text, scope := data, []string{"put", "get", "ref"}
	for range 1 + d.roll(3) {
		text += d.declaration(&scope, 1+d.roll(4)) + " . "
	}
	return text
}

func (d *dice) declaration(scope *[]string, depth int) string {
	name := d.pick("a", "b", "f", "g")
	value := ""
	switch d.roll(8) {
	case 0:
		return d.typeDeclaration()
	case 1, 2:
		return "do " + d.expression(*scope, depth)
	case 3, 4:
		value = "let rec " + name + " " + "x = " + d.expression(append([]string{name, "x"}, *scope...), depth)
	case 5:
		value = "let " + name + " = " + d.expression(*scope, depth)
	default:
		value = "let " + name + " x y = " + d.expression(append([]string{"x", "y"}, *scope...), depth)
	}
	*scope = append([]string{name}, *scope...)
	return value
}

func (d *dice) typeDeclaration() string {
	letters := d.pick("", "'a", "'a 'b", "'a 'a")
	if d.rarely(3) {
		letters = ""
	}
	text := "type " + d.pick("t", "u", "v", "t", "u", "v", "list", "int") + " " + letters + " = "
	for i := range 1 + d.roll(3) {
		if i > 0 {
			text += " | "
		}
		text += d.pick("A", "B", "C", "D", "E", "A", "B", "C", "D", "E", "Nil")
		for range d.roll(3) {
			text += " " + d.written(2)
		}
	}
	return text
}

func (d *dice) written(depth int) string {
	if depth == 0 || d.rarely(2) {
		return d.pick("int", "bool", "unit", "'a", "'b", "t", "int", "bool", "unit", "'a", "list")
	}
	switch d.roll(4) {
	case 0:
		return "(list " + d.written(depth-1) + ")"
	case 1:
		return "(" + d.pick("ref", "ref", "pair", "t") + " " + d.written(depth-1) + ")"
	case 2:
		return "(pair " + d.written(depth-1) + " " + d.written(depth-1) + ")"
	}
	return "(" + d.written(depth-1) + " -> " + d.written(depth-1) + ")"
}

func (d *dice) leaf(scope []string) string {
	switch {
	case d.rarely(80):
		return d.pick("nowhere", "Nowhere", "Cons", "Pair", "Nil 1")
	case d.rarely(3):
		return d.pick("0", "1", "true", "()", "Nil")
	}
	// What has come into scope last is used most.
	return scope[min(d.roll(len(scope)), d.roll(len(scope)))]
}

func (d *dice) expression(scope []string, depth int) string {
	if depth == 0 {
		return "(" + d.leaf(scope) + ")"
	}
	part := func(more ...string) string {
		return d.expression(append(more, scope...), d.roll(depth))
	}
	name := d.pick("x", "y", "z", "f")
	switch d.roll(20) {
	case 0, 1, 2:
		return "(fun " + name + " -> " + part(name) + ")"
	case 3, 4, 5, 6:
		return "(" + part() + " " + part() + ")"
	case 7, 8, 9:
		return "(let " + name + " = " + part() + " in " + part(name) + ")"
	case 10:
		return "(let rec " + name + " x = " + part(name, "x") + " in " + part(name) + ")"
	case 11:
		return "(if " + part() + " then " + part() + " else " + part() + ")"
	case 12:
		return "(" + part() + " ; " + part() + ")"
	case 13:
		return "(" + part() + " := " + part() + ")"
	case 14:
		return "(!" + part() + ")"
	case 15:
		return "(" + part() + d.pick(" + ", " < ", " = ", " - ", " * ", " / ") + part() + ")"
	case 16, 17:
		return "(" + d.con(part) + ")"
	}
	return d.match(part)
}

func (d *dice) con(part func(...string) string) string {
	if d.rarely(50) {
		return d.pick("Cons ", "Fn ", "Nil ", "A ") + part()
	}
	switch d.roll(4) {
	case 0:
		return "Cons " + part() + " " + part()
	case 1:
		return "Fn " + part()
	case 2:
		return "Const " + part() + " " + part()
	}
	return "Pair " + part() + " " + part()
}

func (d *dice) match(part func(...string) string) string {
	text := "(match " + part() + " with"
	for range 1 + d.roll(2) {
		var variables []string
		pattern := d.pattern(2, &variables)
		text += " | " + pattern + " -> " + part(variables...)
	}
	return text + " end)"
}

func (d *dice) pattern(depth int, variables *[]string) string {
	if depth == 0 || d.rarely(3) {
		if d.rarely(3) {
			return d.pick("_", "1", "true", "()", "Nil")
		}
		name := fmt.Sprint(d.pick("p", "q"), len(*variables))
		if d.rarely(30) {
			name = "p0"
		}
		*variables = append([]string{name}, *variables...)
		return name
	}
	switch d.roll(3) {
	case 0:
		return "(Cons " + d.pattern(depth-1, variables) + " " + d.pattern(depth-1, variables) + ")"
	case 1:
		return "(Fn " + d.pattern(depth-1, variables) + ")"
	}
	return "(Pair " + d.pattern(depth-1, variables) + " " + d.pattern(depth-1, variables) + ")"
}

// largeProgram has types about as large as types may be, and would be typed if types had no greatest size.
func (d *dice) largeProgram() string {
	text := data + "let w" + strings.Repeat(" x", 1+d.roll(99)) + " = 1 . let d x = Pair x x . let id x = x . "
	for range 1 + d.roll(3) {
		text += d.pick("let f u = ", "let rec f u = ", "do (fun u -> ()) ") + d.grown(1+d.roll(4)) + " . "
	}
	return text
}

// grown makes a larger type out of a large one, or out of a letter that is found to be one.
func (d *dice) grown(depth int) string {
	if depth == 0 {
		return d.pick("w", "w", "w", "1", "Nil", "(fun v -> v)")
	}
	frame := d.pick(
		"(Pair @ @)", "(Pair @ 1)", "(Cons @ Nil)", "(ref @)", "(!(ref @))", "(fun v -> @)", "(id @)", "(d @)", "((fun x -> x) @)", "(let z = @ in z)", "(let z = @ in Pair z z)",
		"(let g x = x in g @)", "(match @ with | x -> x end)", "(match @ with | x -> Pair x x end)", "(match Pair @ 1 with | Pair x y -> Cons x Nil end)", "(if true then @ else @)",
		"(fun k -> let h v = k in let z = if true then k else @ in h)", "(fun k -> let h v = k in let z = if true then k else @ in 1)", "(fun k -> k := @ ; k)", "(fun k -> k @)", "((fun k -> k @) id)",
		"(let rec g x = if true then x else @ in g)", "(Fn (fun x -> if true then x else @))", "(match Fn (fun x -> if true then x else @) with | Fn g -> 1 | _ -> 2 end)", "(match Const (ref @) 1 with | Fn _ -> 1 | y -> 2 end)")
	part := d.grown(d.roll(depth))
	return strings.ReplaceAll(frame, "@", part)
}
