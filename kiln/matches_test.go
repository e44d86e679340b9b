package kiln_test

import (
	"fmt"
	"reflect"
	"slices"
	"strings"
	"testing"

	"kiln/api"
	"kiln/kiln"
)

// shapes declares data of many shapes.
const shapes = lists + pairs + "type color = Red | Green | Blue . type opt 'a = No | Yes 'a . type one = One . type wrap 'a = Wrap 'a . " +
	"type pixel = Pixel color color bool . type endless = More endless . type tree = Leaf | Node tree int tree . type cell = Cell (ref int) . type fn = Fn (int -> int) . "

// wantLooks holds the matches of a text to what is wrong with them, written as the rows that are idle, behind a `!` if something is missing.
func wantLooks(t *testing.T, text string, want ...string) {
	t.Helper()
	matches, place, errno := kiln.Matches(text)
	looks := []string{}
	for _, match := range matches {
		look := strings.Trim(fmt.Sprint(match.Idle), "[]")
		if match.Missing {
			look = "!" + look
		}
		looks = append(looks, look)
	}
	if !slices.Equal(looks, append([]string{}, want...)) || place != 0 || errno != api.OK {
		t.Errorf("of %q: %q, %d, %d, want %q", strings.TrimPrefix(text, shapes), looks, place, errno, want)
	}
}

// wantRows holds a match to what is wrong with it: the patterns are its rows.
func wantRows(t *testing.T, look string, patterns ...string) {
	t.Helper()
	rows := ""
	for _, pattern := range patterns {
		rows += " | " + pattern + " -> 1"
	}
	wantLooks(t, shapes+"let f v = match v with"+rows+" end .", look)
	// The same patterns as parts of others.
	wrapped := ""
	for _, pattern := range patterns {
		wrapped += " | Pair (Wrap (" + pattern + ")) _ -> 1"
	}
	wantLooks(t, shapes+"let f v = match v with"+wrapped+" end .", look)
}

func TestP6TheDocumentsExamples(t *testing.T) {
	wantRows(t, "!", "Cons x (Cons y r)", "Nil")
	wantRows(t, "3", "Cons x (Cons y r)", "Nil", "Cons x Nil", "_")
	wantRows(t, "!", "1", "2")
}

func TestP6TextsWithoutMatches(t *testing.T) {
	for _, text := range []string{"", "let x = 1 .", "type t = A .", "do () ."} {
		wantLooks(t, text)
	}
}

func TestP6VariablesAndWhatFitsAnything(t *testing.T) {
	wantRows(t, "", "x")
	wantRows(t, "", "_")
	wantRows(t, "1", "x", "y")
	wantRows(t, "1 2", "_", "x", "_")
}

func TestP6Numbers(t *testing.T) {
	wantRows(t, "!", "0")
	wantRows(t, "", "0", "_")
	wantRows(t, "!1", "1", "1")
	wantRows(t, "!1 3", "1", "01", "2", "0002")
	wantRows(t, "2", "1", "x", "2")
	wantRows(t, "!", "0", "1", "2", "3", "4", "5", "6", "7", "8", "9", "10", "999999999999999999")
	wantRows(t, "2 11", "0", "1", "1", "3", "4", "5", "6", "7", "8", "9", "_", "10")
}

func TestP6Bools(t *testing.T) {
	wantRows(t, "!", "true")
	wantRows(t, "!", "false")
	wantRows(t, "", "true", "false")
	wantRows(t, "", "false", "x")
	wantRows(t, "2", "true", "false", "_")
	wantRows(t, "1", "true", "true", "false")
	wantRows(t, "!1", "true", "true")
	wantRows(t, "1 2", "x", "true", "false")
}

func TestP6Unit(t *testing.T) {
	wantRows(t, "", "()")
	wantRows(t, "1", "()", "()")
	wantRows(t, "1", "()", "x")
	wantRows(t, "1", "x", "()")
}

func TestP6Data(t *testing.T) {
	wantRows(t, "", "One")
	wantRows(t, "1", "One", "_")
	wantRows(t, "!", "Red")
	wantRows(t, "!", "Red", "Green")
	wantRows(t, "", "Red", "Green", "Blue")
	wantRows(t, "", "Blue", "Green", "x")
	wantRows(t, "3", "Blue", "Red", "Green", "_")
	wantRows(t, "!1", "Red", "Red")
	wantRows(t, "", "Wrap x")
	wantRows(t, "!", "Wrap 1")
	wantRows(t, "", "Wrap true", "Wrap false")
	wantRows(t, "", "No", "Yes _")
	wantRows(t, "!", "Yes x")
	wantRows(t, "!", "No", "Yes true")
	wantRows(t, "3", "No", "Yes true", "Yes false", "Yes x")
	wantRows(t, "2", "Pair true _", "Pair false x", "Pair _ true")
	wantRows(t, "!", "Pair true _", "Pair _ true")
	wantRows(t, "!", "Pair 1 _", "Pair _ 2", "Pair 2 1")
	wantRows(t, "2", "Pair 1 _", "Pair _ 2", "Pair 1 2", "_")
}

func TestP6DataWithinData(t *testing.T) {
	wantRows(t, "", "Yes (Yes x)", "Yes No", "No")
	wantRows(t, "!", "Yes (Yes (Yes x))", "Yes No", "No")
	wantRows(t, "!", "Yes (Cons (Yes 1) Nil)", "No")
	wantRows(t, "!", "Cons x Nil", "Nil")
	wantRows(t, "", "Cons x Nil", "Nil", "Cons x (Cons y r)")
	wantRows(t, "1", "Cons Red _", "Cons Red Nil", "Cons x r", "Nil")
	wantRows(t, "1 4 6", "Cons 1 r", "Cons 1 Nil", "Cons x Nil", "Cons x r", "Cons 5 _", "Nil", "_")
	wantRows(t, "", "Pair (Cons x r) No", "Pair Nil _", "Pair _ (Yes y)")
	wantRows(t, "!", "Pair (Cons x r) No", "Pair Nil _", "Pair _ (Yes true)")
	wantRows(t, "3", "Pair (Cons x r) No", "Pair Nil _", "Pair _ (Yes y)", "Pair (Cons 1 Nil) (Yes 2)")
	wantRows(t, "", "Leaf", "Node Leaf _ _", "Node (Node _ _ _) 0 Leaf", "Node (Node Leaf n r) m (Node _ _ _)", "Node (Node (Node a b c) n r) m (Node _ _ _)", "Node x n Leaf")
	wantRows(t, "!", "Leaf", "Node Leaf _ _", "Node (Node _ _ _) 0 Leaf", "Node (Node Leaf n r) m (Node _ _ _)", "Node (Node (Node a b c) n r) m (Node _ _ _)")
}

func TestP6DataWithoutEnd(t *testing.T) {
	wantRows(t, "", "More x")
	wantRows(t, "", "More (More (More x))")
	wantRows(t, "1", "More (More x)", "x")
	wantRows(t, "1", "More x", "More (More (More y))")
	// There are values of each variant, also of one that no run can make.
	wantLooks(t, "type t = A | B t t . type u = U u . type v = V u | W . let f x = match x with | B _ _ -> 1 end . let g x = match x with | W -> 1 end . let h x = match x with | V (U (U _)) -> 1 | W -> 2 end .",
		"!", "!", "")
}

func TestP6VariantsWithPartsThatAreTooLarge(t *testing.T) {
	for _, size := range []int{200, 201, 700} {
		wantLooks(t, "type t = A | B "+writtenOfSize(size)+" . let f x = match x with | A -> 1 end . let g x = match x with | A -> 1 | _ -> 2 end . let h x = match x with | x -> 1 | A -> 2 end .",
			"!", "", "1")
	}
}

func TestP6FunctionsAndCells(t *testing.T) {
	wantLooks(t, shapes+"let f x = match put with | f -> 1 | _ -> 2 end . let g x = match ref 1 with | _ -> !x end .", "1", "")
	wantRows(t, "", "Fn f")
	wantRows(t, "1", "Fn _", "f")
	wantRows(t, "", "Cell c")
	wantRows(t, "2", "Yes (Fn f)", "No", "Yes _")
	wantRows(t, "1", "Pair (Cell c) true", "Pair _ true", "Pair x false")
}

func TestP6IdleBecauseOfSeveralRowsAhead(t *testing.T) {
	wantRows(t, "", "Pixel Red _ true", "Pixel _ Green false", "Pixel _ _ _")
	wantRows(t, "!3", "Pixel Red _ _", "Pixel Green _ _", "Pixel Blue _ true", "Pixel _ _ true")
	wantRows(t, "3", "Pixel Red _ _", "Pixel Green _ _", "Pixel Blue _ _", "_")
	wantRows(t, "!3 4", "Pixel _ _ true", "Pixel Red Red _", "Pixel _ Green _", "Pixel Red Red false", "Pixel Blue Green x")
	wantRows(t, "2", "Pair true _", "Pair _ true", "Pair true true", "Pair false false")
	wantRows(t, "3", "Pair true _", "Pair _ true", "Pair false false", "x")
	wantRows(t, "!2", "Pair 1 true", "Pair x false", "Pair 1 y")
	wantRows(t, "!2", "Cons x Nil", "Cons x (Cons y r)", "Cons 1 r")
	wantRows(t, "", "Pixel Red _ true", "Pixel Green _ true", "Pixel Blue _ true", "Pixel _ Red false", "Pixel _ Green false", "Pixel _ Blue false")
	wantRows(t, "!", "Pixel Red _ true", "Pixel Green _ true", "Pixel Blue _ true", "Pixel _ Red false", "Pixel _ Green false")
	// An idle row takes nothing away from the rows behind it.
	wantRows(t, "1", "Red", "Red", "Green", "Blue")
}

func TestP6TheOrderOfTheWords(t *testing.T) {
	// Each match is told by which of its rows is idle, if any.
	match := func(idle int, subject, body string) string {
		rows := ""
		for i := range 4 {
			if i == idle {
				rows += " | 0 -> " + body
			} else {
				rows += fmt.Sprintf(" | %d -> %s", i*9, body)
				body = "1"
			}
		}
		return "match " + subject + " with" + rows + " end"
	}
	one, two, three := match(1, "1", "1"), match(2, "2", "1"), match(3, "3", "1")
	for text, want := range map[string][]string{
		"let x = " + one + " . let y = " + two + " . let z = " + three + " .":                     {"!1", "!2", "!3"},
		"let x = " + three + " + " + one + " * " + two + " .":                                     {"!3", "!1", "!2"},
		"let f x = " + match(1, two, three) + " .":                                                {"!1", "!2", "!3"},
		"let f x = " + match(3, two, one) + " .":                                                  {"!3", "!2", "!1"},
		"let x = let y = " + two + " in " + one + " . do put (" + three + ") .":                   {"!2", "!1", "!3"},
		"let x = if " + three + " < 1 then " + two + " else " + one + " .":                        {"!3", "!2", "!1"},
		"let rec f x = let rec g y = " + two + " in f (" + one + ") + (" + three + ") .":          {"!2", "!1", "!3"},
		"type t 'a = A 'a int . let f x = A (fun y -> " + two + ") (" + one + ") .":               {"!2", "!1"},
		"do ref (" + two + ") := " + one + " ; put (!(ref (" + three + "))) .":                    {"!2", "!1", "!3"},
		"let x = match 1 with | x -> 1 | y -> match 2 with | 2 -> 3 end | 2 -> " + two + " end .": {"1 2", "!", "!2"},
	} {
		wantLooks(t, text, want...)
	}
}

// TestP6ManyColumns: the values that rows leave out are found without going over all of them.
func TestP6ManyColumns(t *testing.T) {
	wide := func(columns int, rows ...string) string {
		text := "type c = A | B . type w = W" + strings.Repeat(" c", columns) + " . let f v = match v with"
		for _, row := range rows {
			text += " | W " + strings.Join(strings.Split(row+strings.Repeat("_", columns-len(row)), ""), " ") + " -> 1"
		}
		return text + " end ."
	}
	var diagonal, spread, steps []string
	for i := range 11 {
		steps = append(steps, strings.Repeat("B", i)+"A")
		diagonal = append(diagonal, strings.Repeat("_", i)+"A")
		spread = append(spread, strings.Repeat("_", 5*i)+"AAAAA")
	}
	for _, columns := range []int{60, 100} {
		wantLooks(t, wide(columns, append(diagonal, "BBBBBBBBBBB")...), "")
		wantLooks(t, wide(columns, append(diagonal, "_")...), "")
		wantLooks(t, wide(columns, append(diagonal, "BBBBBBBBBBBB")...), "!")
		wantLooks(t, wide(columns, append(diagonal, "BBBBBBBBBBA")...), "!11")
		wantLooks(t, wide(columns, append(steps, "BBBBBBBBBBB")...), "")
		wantLooks(t, wide(columns, append(steps, "BBBBBBBBBBBB")...), "!")
		wantLooks(t, wide(columns, append(steps, "_BA")...), "!11")
		wantLooks(t, wide(columns, append(spread, "_")...), "")
		wantLooks(t, wide(columns, append(spread, strings.Repeat("B", 55))...), "!")
		wantLooks(t, wide(columns, append(spread, strings.Repeat("B", 50)+"AAAAA")...), "!11")
	}
}

func TestP2ListsWithinMatchesShareNoMemory(t *testing.T) {
	const text = "let f x = match x with | y -> 1 | 1 -> 2 | 2 -> 3 | z -> match z with | y -> 1 | 1 -> 2 | _ -> 3 end end . let g x = match x with | 1 -> 2 | 1 -> 2 end ."
	want := []api.Match{{Idle: []int{1, 2, 3}}, {Idle: []int{1, 2}}, {Missing: true, Idle: []int{1}}}
	kept, _, _ := kiln.Matches(text)
	spoiled, _, _ := kiln.Matches(text)
	for at, match := range spoiled {
		idle := match.Idle[:cap(match.Idle)]
		for i := range idle {
			idle[i] = -7
		}
		for other := at + 1; other < len(spoiled); other++ {
			if slices.Contains(spoiled[other].Idle[:cap(spoiled[other].Idle)], -7) {
				t.Errorf("the lists of match %d and %d share memory", at, other)
			}
		}
	}
	whole := spoiled[:cap(spoiled)]
	for i := range whole {
		whole[i] = api.Match{Missing: true, Idle: []int{-7}}
	}
	later, _, _ := kiln.Matches(text)
	for _, matches := range [][]api.Match{kept, later} {
		if !reflect.DeepEqual(matches, want) {
			t.Errorf("behind a write into another list: %v, want %v", matches, want)
		}
	}
}
