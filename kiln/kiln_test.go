package kiln_test

import (
	"math"
	"reflect"
	"slices"
	"strings"
	"sync"
	"testing"

	"kiln/api"
	"kiln/kiln"
)

// answer is what any of the calls has answered: its list or result, the place, the error.
type answer struct {
	what  any
	empty bool
	place int
	errno api.Errno
}

func listAnswer[T any](list []T, place int, errno api.Errno) answer {
	return answer{list, len(list) == 0, place, errno}
}

func runAnswer(result api.Result, place int, errno api.Errno) answer {
	return answer{result, result == api.Result{}, place, errno}
}

func allAnswers(text string) []answer {
	answers := []answer{
		listAnswer(kiln.Tokens(text)),
		listAnswer(kiln.Trees(text)),
		listAnswer(kiln.Types(text)),
		listAnswer(kiln.Matches(text)),
	}
	for _, steps := range []int{math.MinInt, -1, 0, 1, api.MaxSteps, api.MaxSteps + 1, math.MaxInt} {
		answers = append(answers, runAnswer(kiln.Run(text, "A\x00\xff", steps)))
	}
	return answers
}

// oddTexts are texts of all kinds: programs, tokens in no order, and bytes that are none.
func oddTexts() []string {
	texts := []string{
		"", " ", "#", "# only a remark", "\n", ".", "..", "$", "a $", "'", "'let", ":", "x:", "x := :", "\x00", "\xff\xfe", "é",
		"let x = 1 .",
		"let x = y .",
		"do put 65 .",
		"let rec f x = f x . do f () .",
		"type list 'a = Nil | Cons 'a (list 'a) . let h l = match l with | Cons x r -> x end .",
		"type t 'a 'b = A 'a | B 'b (t 'b 'a) . let f x = match x with | A 1 -> 1 | B y (A z) -> 2 | _ -> 3 | A _ -> 4 end . let g x y = f x ; y .",
		"let f x = x x .", "let r = ref (fun x -> x) .", "type t = A | A .", "type t = A (t t) .", "do 1 . do nowhere .",
		strings.Repeat("9", 18), strings.Repeat("9", 19),
	}
	for _, piece := range []string{"(", "a ", "! ", "let ", "fun x -> ", "match ", "match x with | ", "type t = A (", "do f (", "let x=1.", "do().", "let f x=f.", "let f x y=f.", ")", "do x.", "1 + ", "'a", "9", ".", "$", "#", "\n", "\x80"} {
		texts = append(texts,
			strings.Repeat(piece, api.MaxText/len(piece)),
			strings.Repeat(piece, api.MaxText/len(piece)+1),
			strings.Repeat(piece, 20000))
	}
	return texts
}

func TestP1ErrorsComeWithNothingElse(t *testing.T) {
	for _, text := range oddTexts() {
		for i, a := range allAnswers(text) {
			if a.errno != api.OK && !a.empty {
				t.Errorf("%.40q, call %d: error %d beside %v", text, i, a.errno, a.what)
			}
			if a.errno == api.OK && a.place != 0 {
				t.Errorf("%.40q, call %d: no error, and the place %d", text, i, a.place)
			}
		}
	}
}

func TestP1TheErrorNamedFirstIsTold(t *testing.T) {
	for _, text := range []string{
		strings.Repeat("$", api.MaxText+1),
		"$" + strings.Repeat(" ", api.MaxText),
		strings.Repeat(" ", api.MaxText) + "$",
		strings.Repeat("9", api.MaxText+1),
	} {
		wantError(t, text, 0, api.ErrLong)
	}
}

func TestP1NoTokensBesideALateError(t *testing.T) {
	wantError(t, "let x = 1 . $", 12, api.ErrToken)
}

func TestP2EqualTextsHaveEqualAnswers(t *testing.T) {
	texts := oddTexts()
	first := make([][]answer, len(texts))
	for i, text := range texts {
		first[i] = allAnswers(text)
	}
	var workers sync.WaitGroup
	for range 4 {
		workers.Go(func() {
			for i := range texts {
				// Backwards, so that each text has another one ahead of it than before.
				at := len(texts) - 1 - i
				if again := allAnswers(texts[at]); !reflect.DeepEqual(again, first[at]) {
					t.Errorf("%.40q: answered %.200v, then %.200v", texts[at], first[at], again)
				}
			}
		})
	}
	workers.Wait()
}

// textCall is a call that answers with a list of texts.
type textCall func(string) ([]string, int, api.Errno)

func textCalls() map[string]textCall {
	return map[string]textCall{"Tokens": kiln.Tokens, "Trees": kiln.Trees, "Types": kiln.Types}
}

func TestP2ListsShareNoMemory(t *testing.T) {
	const text = "let f x = x + 1 . let y = f 1 . let z = f 2 ."
	for name, call := range textCalls() {
		kept, _, _ := call(text)
		want := slices.Clone(kept)
		spoiled, _, _ := call(text)
		for i := range spoiled[:cap(spoiled)] {
			spoiled[:cap(spoiled)][i] = "spoiled"
		}
		later, _, _ := call(text)
		for _, list := range [][]string{kept, later} {
			if len(list) < 3 || !slices.Equal(list, want) {
				t.Errorf("%s: behind a write into another list: %q, want %q", name, list, want)
			}
			if slices.Contains(list[:cap(list)], "spoiled") {
				t.Errorf("%s: spare room is shared: %q", name, list[:cap(list)])
			}
		}
	}
}

func TestP2AppendedTextsStayApart(t *testing.T) {
	const text = "let a = 1 . let b = 2 . let c = 3 ."
	for name, call := range textCalls() {
		first, _, _ := call(text)
		second, _, _ := call(text)
		length := len(first)
		first = append(first, "first")
		second = append(second, "second")
		if length < 3 || first[length] != "first" || second[length] != "second" {
			t.Errorf("%s: appended: %q and %q", name, first, second)
		}
	}
}

func (call textCall) want(t *testing.T, text string, want []string) {
	t.Helper()
	list, place, errno := call(text)
	if !slices.Equal(list, want) || place != 0 || errno != api.OK {
		t.Errorf("of %.80q: %.200q, %d, %d, want %.200q", text, list, place, errno, want)
	}
}

func (call textCall) wantError(t *testing.T, text string, place int, errno api.Errno) {
	t.Helper()
	list, gotPlace, gotErrno := call(text)
	if len(list) != 0 || gotPlace != place || gotErrno != errno {
		t.Errorf("of %.80q: %.200q, %d, %d, want an empty list, %d, %d", text, list, gotPlace, gotErrno, place, errno)
	}
}

func wantTokens(t *testing.T, text string, want ...string) {
	t.Helper()
	textCall(kiln.Tokens).want(t, text, want)
}

func wantError(t *testing.T, text string, place int, errno api.Errno) {
	t.Helper()
	textCall(kiln.Tokens).wantError(t, text, place, errno)
}

func TestP3TheDocumentsExamples(t *testing.T) {
	wantTokens(t, "let x=1->_a#c", "let", "x", "=", "1", "->", "_", "a")
	wantError(t, "a $", 2, api.ErrToken)
}

func TestP3OrdinaryTexts(t *testing.T) {
	wantTokens(t, "")
	wantTokens(t, "type list 'a = Nil | Cons 'a (list 'a) .",
		"type", "list", "'a", "=", "Nil", "|", "Cons", "'a", "(", "list", "'a", ")", ".")
	wantTokens(t, "let rec f n = if n < 1 then () else (put (64 + n) ; f (n - 1)) .",
		"let", "rec", "f", "n", "=", "if", "n", "<", "1", "then", "(", ")", "else",
		"(", "put", "(", "64", "+", "n", ")", ";", "f", "(", "n", "-", "1", ")", ")", ".")
	wantTokens(t, "do c := !c * 2 / 3 .", "do", "c", ":=", "!", "c", "*", "2", "/", "3", ".")
	wantTokens(t, "match b with | true -> 1 | _ -> 0 end",
		"match", "b", "with", "|", "true", "->", "1", "|", "_", "->", "0", "end")
}

func TestP3TextsOfTheGreatestLength(t *testing.T) {
	name := strings.Repeat("a", api.MaxText)
	wantTokens(t, name, name)
	wantError(t, name+"a", 0, api.ErrLong)
	wantTokens(t, strings.Repeat(" ", api.MaxText))
	wantError(t, strings.Repeat(" ", api.MaxText+1), 0, api.ErrLong)
	signs := strings.Repeat("(", api.MaxText)
	wantTokens(t, signs, strings.Split(signs, "")...)
	wantError(t, signs+"(", 0, api.ErrLong)
	wantError(t, strings.Repeat(" ", api.MaxText-1)+"$", api.MaxText-1, api.ErrToken)
	// Bytes are counted, not runes: these are 2001 runes.
	wantError(t, "#"+strings.Repeat("é", api.MaxText/2), 0, api.ErrLong)
}

func TestP3Numbers(t *testing.T) {
	eighteen := strings.Repeat("9", 18)
	wantTokens(t, eighteen, eighteen)
	wantTokens(t, "000000000000000001", "000000000000000001")
	wantTokens(t, eighteen+" "+eighteen, eighteen, eighteen)
	wantTokens(t, eighteen+"a"+eighteen+"9", eighteen, "a"+eighteen+"9")
	wantTokens(t, "1_000", "1", "_", "000")
	wantTokens(t, "-5", "-", "5")
	wantError(t, eighteen+"9", 0, api.ErrToken)
	wantError(t, "0000000000000000001", 0, api.ErrToken)
	wantError(t, "x ("+eighteen+"9)", 3, api.ErrToken)
	wantError(t, "_"+eighteen+"9", 1, api.ErrToken)
	wantError(t, strings.Repeat(eighteen, 2), 0, api.ErrToken)
}

func TestP3Letters(t *testing.T) {
	wantTokens(t, "'a'b 'c1_", "'a", "'b", "'c1_")
	wantTokens(t, "a'b", "a", "'b")
	wantTokens(t, "'letx 'let_ 'le 'inn 'i", "'letx", "'let_", "'le", "'inn", "'i")
	wantTokens(t, "'aB", "'a", "B")
	for _, behind := range []string{"", " a", "A", "1", "_a", "''a", "#a", "\na", "$"} {
		wantError(t, "x '"+behind, 2, api.ErrToken)
	}
}

func TestP3WordsAreNoLetters(t *testing.T) {
	for _, word := range words() {
		wantError(t, "x '"+word, 2, api.ErrToken)
		wantError(t, "'"+word+" x", 0, api.ErrToken)
		wantError(t, "'"+word+"A", 0, api.ErrToken)
		wantTokens(t, "'"+word+"x", "'"+word+"x")
		wantTokens(t, "'"+word+"_", "'"+word+"_")
		wantTokens(t, "'"+word+"0", "'"+word+"0")
		wantTokens(t, "'x"+word, "'x"+word)
	}
}

func words() []string {
	return strings.Fields("let rec in fun if then else match with end type do true false")
}

func TestP3WordsAgainstNamesLikeThem(t *testing.T) {
	wantTokens(t, strings.Join(words(), " "), words()...)
	for _, word := range words() {
		wantTokens(t, word+"x "+word+"_ "+word+"1 x"+word, word+"x", word+"_", word+"1", "x"+word)
		wantTokens(t, word+"X", word, "X")
	}
	wantTokens(t, "letrec let rec le t", "letrec", "let", "rec", "le", "t")
}

func TestP3NamesAndConstructors(t *testing.T) {
	wantTokens(t, "a a1 a_ a_1b_ az", "a", "a1", "a_", "a_1b_", "az")
	wantTokens(t, "A Z9 Aa AB A_b1", "A", "Z9", "Aa", "AB", "A_b1")
	wantTokens(t, "aB", "a", "B")
	wantTokens(t, "fooBar_1Baz", "foo", "Bar_1Baz")
	wantTokens(t, "_x __ _A", "_", "x", "_", "_", "_", "A")
	wantTokens(t, "1a", "1", "a")
}

func TestP3Signs(t *testing.T) {
	signs := strings.Fields("( ) = < + - * / ; := -> | ! . _")
	wantTokens(t, strings.Join(signs, ""), signs...)
	wantTokens(t, strings.Join(signs, " "), signs...)
	wantTokens(t, "-->", "-", "->")
	wantTokens(t, "- -> -", "-", "->", "-")
	wantTokens(t, ":==", ":=", "=")
	wantTokens(t, "->->", "->", "->")
	wantTokens(t, "x:=:=", "x", ":=", ":=")
	for _, text := range []string{"x :", "x :x", "x : =", "x ::=", "x :#\n=", "x >", "x >=", "x >-"} {
		wantError(t, text, 2, api.ErrToken)
	}
	wantError(t, "- >", 2, api.ErrToken)
	wantError(t, "->>", 2, api.ErrToken)
	wantError(t, ":=:", 2, api.ErrToken)
}

func TestP3WhatStandsBetweenTokens(t *testing.T) {
	wantTokens(t, " \t\na \t\nb\n\t ", "a", "b")
	wantTokens(t, "a#b", "a")
	wantTokens(t, "a#", "a")
	wantTokens(t, "a #b\n", "a")
	wantTokens(t, "a #b\nc", "a", "c")
	wantTokens(t, "#a\n#b\n\n#c\nd#e", "d")
	wantTokens(t, "a # $ ' : \x00\r\xff 1234567890123456789 # b\nc", "a", "c")
	wantTokens(t, "le#\nt", "le", "t")
	wantError(t, "-#\n>", 3, api.ErrToken)
	wantError(t, "a # $\n $", 7, api.ErrToken)
	wantError(t, "a #b\rc\n\r", 7, api.ErrToken)
}

func TestP3BytesThatBeginNoToken(t *testing.T) {
	const begin = "abcdefghijklmnopqrstuvwxyzABCDEFGHIJKLMNOPQRSTUVWXYZ0123456789()=<+-*/;|!._ \t\n#"
	for b := range 256 {
		one := string([]byte{byte(b)})
		if strings.Contains(begin, one) {
			if _, place, errno := kiln.Tokens(one); place != 0 || errno != api.OK {
				t.Errorf("the byte %d: %d, %d", b, place, errno)
			}
			continue
		}
		wantError(t, one, 0, api.ErrToken)
		wantError(t, "let x"+one+") $", 5, api.ErrToken)
		wantError(t, "( "+one, 2, api.ErrToken)
	}
	wantError(t, "é", 0, api.ErrToken)
	wantError(t, "aé$", 1, api.ErrToken)
	wantError(t, "a\u00a0b", 1, api.ErrToken)
}
