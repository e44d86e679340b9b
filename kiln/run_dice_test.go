package kiln_test

import (
	"fmt"
	"math/rand"
	"regexp"
	"slices"
	"strings"
	"testing"

	"kiln/api"
	"kiln/kiln"
	"kiln/parse"
)

// dice makes programs at random, the same ones for the same seed. They have types, but for those in which a letter is left of a declaration that is no value.
type dice struct{ random *rand.Rand }

func newDice(seed int64) *dice { return &dice{rand.New(rand.NewSource(seed))} }

func (d *dice) roll(sides int) int { return d.random.Intn(sides) }

func (d *dice) pick(texts ...string) string { return texts[d.roll(len(texts))] }

// typed is a variable in scope with its type, written as in a declaration.
type typed struct{ name, kind string }

// kinds are the types of which there are expressions; those that are made of others stand behind them.
const kinds = "int bool unit color list pair ref fn act take refs"

// known is declared ahead of each program, for all kinds of which it speaks.
const known = lists + pairs + "type color = Red | Green | Blue . let id x = x . let const x y = x . let twice f x = f (f x) . " +
	"let rec map f l = match l with | Nil -> Nil | Cons x r -> Cons (f x) (map f r) end . let rec each f l = match l with | Nil -> () | Cons x r -> f x ; each f r end . " +
	"let rec fold f a l = match l with | Nil -> a | Cons x r -> fold f (f a x) r end . "

func (d *dice) kind() string { return d.pick(strings.Fields(kinds)...) }

func (d *dice) program() string {
	text := known
	var scope []typed
	for range 1 + d.roll(4) {
		name, kind := d.pick("a", "b", "f", "g"), d.kind()
		switch d.roll(4) {
		case 0:
			text += "let " + name + " = " + d.expression(kind, scope, 3) + " . "
			scope = append(scope, typed{name, kind})
		case 1:
			text += "let rec " + name + " x = " + d.fill("@int/"+name+"=fn/x=int", scope, 4) + " . "
			scope = append(scope, typed{name, "fn"})
		default:
			text += "do " + d.expression("unit", scope, 4) + " . "
		}
		scope = lastOfEachName(scope)
	}
	return text + "do " + d.expression("unit", scope, 5) + " ."
}

// lastOfEachName leaves out what is declared again: the name stands for something else by then.
func lastOfEachName(scope []typed) []typed {
	var last []typed
	for at, variable := range scope {
		if !slices.ContainsFunc(scope[at+1:], func(later typed) bool { return later.name == variable.name }) {
			last = append(last, variable)
		}
	}
	return last
}

func (d *dice) expression(kind string, scope []typed, depth int) string {
	var fitting []string
	for _, variable := range scope {
		if variable.kind == kind {
			fitting = append(fitting, variable.name)
		}
	}
	if len(fitting) > 0 && d.roll(4) == 0 {
		return d.pick(fitting...)
	}
	if depth <= 0 {
		return d.least(kind)
	}
	frame := d.special(kind)
	if d.roll(2) == 0 {
		frame = d.general(kind)
	}
	return "(" + d.fill(frame, scope, depth) + ")"
}

// least gives a short expression.
func (d *dice) least(kind string) string {
	switch kind {
	case "int":
		return d.pick("0", "1", "2", "65", "300", "999999999999999999")
	case "bool":
		return d.pick("true", "false")
	case "color":
		return d.pick("Red", "Green", "Blue")
	case "list":
		return d.pick("Nil", "(Cons 1 Nil)", "(Cons 66 (Cons 67 Nil))")
	case "pair":
		return d.pick("(Pair 1 true)", "(Pair 70 false)")
	case "ref":
		return d.pick("(ref 1)", "(ref 71)")
	case "fn":
		return d.pick("(fun n -> n + 1)", "(fun n -> put n ; n)", "(fun n -> n * 3 - 7)", "id")
	case "act":
		return d.pick("(fun u -> u)", "(fun u -> u ; put 72)", "id")
	case "take":
		return d.pick("put", "(fun n -> put (n + 1))")
	case "refs":
		return "(ref (fun n -> n + 2))"
	}
	return d.pick("()", "(put 68)", "(put (get ()))")
}

// special gives a frame for an expression that its type alone has; frames are filled by fill.
func (d *dice) special(kind string) string {
	switch kind {
	case "int":
		return d.pick("@int + @int", "@int - @int", "@int * @int", "@int / @int", "@fn @int", "get ()", "!@ref", "!@refs @int", "twice @fn @int",
			"fold (fun x -> fun y -> @int/x=int/y=int) @int @list", "let rec f n = if n < 1 then @int else @int/n=int + f (n - 1) in f 3", "let rec f n = @unit/n=int ; f @int/n=int in f @int")
	case "bool":
		return d.pick("@int < @int", "@int = @int")
	case "unit":
		return d.pick("put @int", "put @int", "@ref := @int", "@refs := @fn", "@act @unit", "@take @int", "each @take @list")
	case "list":
		return d.pick("Cons @int @list", "map @fn @list", "Nil")
	case "pair":
		return "Pair @int @bool"
	case "ref":
		return "ref @int"
	case "refs":
		return "ref @fn"
	case "fn":
		return d.pick("fun x -> @int/x=int", "fun y -> @unit/y=int ; @int/y=int", "twice @fn", "!@refs")
	case "act":
		return "fun z -> z ; @unit/z=unit"
	case "take":
		return "fun x -> put (x + @int/x=int)"
	}
	return d.least(kind)
}

// general gives a frame for an expression as all types have.
func (d *dice) general(kind string) string {
	other := d.kind()
	frame := d.pick("if @bool then @kind else @kind", "let x = @other in @kind/x=other", "let y = @other in @kind/y=other", "let rec f n = @int/f=fn/n=int in @kind/f=fn",
		"@unit ; @kind", "(fun z -> @kind/z=other) @other", "id @kind", "const @kind @other", "!(ref @kind)", d.match(other), d.match(other), d.match(other))
	return strings.NewReplacer("other", other, "kind", kind).Replace(frame)
}

func (d *dice) match(subject string) string {
	text := "match @other with"
	for range 1 + d.roll(4) {
		var variables []typed
		text += " | " + d.pattern(subject, 2, &variables) + " -> @kind"
		for _, variable := range variables {
			text += "/" + variable.name + "=" + variable.kind
		}
	}
	if d.roll(3) == 0 {
		text += " | _ -> @kind"
	}
	return text + " end"
}

// fill puts an expression of its type in each place of a frame (`@int`), with more variables in scope if the place names them (`@int/x=bool`).
func (d *dice) fill(frame string, scope []typed, depth int) string {
	place := regexp.MustCompile(`@\w+(/\w+=\w+)*`)
	return place.ReplaceAllStringFunc(frame, func(found string) string {
		kind, more, _ := strings.Cut(found[1:], "/")
		wider := slices.Clone(scope)
		for _, variable := range strings.FieldsFunc(more, func(r rune) bool { return r == '/' }) {
			name, kind, _ := strings.Cut(variable, "=")
			wider = append(wider, typed{name, kind})
		}
		return d.expression(kind, lastOfEachName(wider), max(d.roll(depth), d.roll(depth)))
	})
}

func (d *dice) pattern(kind string, depth int, variables *[]typed) string {
	part := func(kind string) string { return d.pattern(kind, depth-1, variables) }
	if depth > 0 && d.roll(3) > 0 {
		switch kind {
		case "int":
			return d.pick("0", "1", "2", "65", "66", "007")
		case "bool":
			return d.pick("true", "false")
		case "unit":
			return "()"
		case "color":
			return d.pick("Red", "Green", "Blue")
		case "list":
			return d.pick("Nil", "(Cons "+part("int")+" "+part("list")+")")
		case "pair":
			return "(Pair " + part("int") + " " + part("bool") + ")"
		}
	}
	if d.roll(3) == 0 {
		return "_"
	}
	name := fmt.Sprint("v", len(*variables))
	*variables = append(*variables, typed{name, kind})
	return name
}

// ends counts how programs end, and which of them leave no value out.
type ends struct{ done, noMatch, over, complete, put int }

// holdRun holds a program to the oracle with fewer and more steps, and to P8.
func holdRun(t *testing.T, text, input string, e *ends) {
	t.Helper()
	declarations, _, _ := parse.Program(text)
	var before api.Result
	for number, steps := range []int{0, 1, 2, 5, 10, 40, 200} {
		result, place, errno := kiln.Run(text, input, steps)
		if place != 0 || errno != api.OK {
			t.Fatalf("%q: %d, %d", text, place, errno)
		}
		if want := oraclesResult(declarations, input, steps); result != want {
			t.Fatalf("%q of %q with %d steps: %+v, the oracle says %+v", text, input, steps, result, want)
		}
		if !strings.HasPrefix(result.Output, before.Output) || result.Steps > steps || (result.End == api.Over && result.Steps != steps) {
			t.Fatalf("%q with %d steps: %+v, and with fewer %+v", text, steps, result, before)
		}
		if number > 0 && before.End != api.Over && result != before {
			t.Fatalf("%q with %d steps: %+v, but it had ended before: %+v", text, steps, result, before)
		}
		before = result
	}
	e.count(t, text, before)
}

func (e *ends) count(t *testing.T, text string, result api.Result) {
	t.Helper()
	switch result.End {
	case api.Done:
		e.done++
	case api.NoMatch:
		e.noMatch++
	case api.Over:
		e.over++
	}
	if result.Output != "" {
		e.put++
	}
	matches, _, _ := kiln.Matches(text)
	if slices.ContainsFunc(matches, func(m api.Match) bool { return m.Missing }) {
		return
	}
	e.complete++
	if result.End == api.NoMatch {
		t.Fatalf("%q: no match is Missing, and there is no match: %+v", text, result)
	}
}

func TestP8RandomProgramsAgainstTheOracle(t *testing.T) {
	d := newDice(1)
	var e ends
	for range 3000 {
		text := d.program()
		if _, _, errno := kiln.Types(text); errno == api.OK {
			holdRun(t, text, d.pick("", "A", "xyz\x00\xff", strings.Repeat("ab", 50)), &e)
		}
	}
	for _, count := range []int{e.done, e.noMatch, e.over, e.complete, e.put} {
		if count < 100 {
			t.Errorf("too few of some programs: %+v", e)
		}
	}
}

func FuzzRun(f *testing.F) {
	d := newDice(2)
	for range 100 {
		f.Add(d.program(), "ab\xff")
	}
	f.Fuzz(func(t *testing.T, text, input string) {
		if _, _, errno := kiln.Types(text); errno == api.OK {
			holdRun(t, text, input, &ends{})
		}
	})
}
