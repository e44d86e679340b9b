package lex

import (
	"regexp"
	"slices"
	"strings"
	"testing"

	"kiln/api"
)

// The oracle says by patterns what the package says by hand.
var (
	gap    = regexp.MustCompile(`^(?:[ \t\n]|#[^\n]*)+`)
	token  = longest(`^(?:'?[a-z][a-z0-9_]*|[A-Z][a-zA-Z0-9_]*|[0-9]+|:=|->|[-()=<+*/;|!._])`)
	no     = regexp.MustCompile(`^(?:[0-9]{19,}|'(?:` + strings.ReplaceAll(words, " ", "|") + `))$`)
	pieces = []string{"a", "let", "in", "A", "0", "123456789", "'", ":", "=", "-", ">", "_", "#", "\n", " ", "\t", "$", ".", "\xff", ""}
)

const words = "let rec in fun if then else match with end type do true false"

func longest(pattern string) *regexp.Regexp {
	r := regexp.MustCompile(pattern)
	r.Longest()
	return r
}

func oracle(text string) ([]string, int, api.Errno) {
	var tokens []string
	for rest := text; ; {
		rest = rest[len(gap.FindString(rest)):]
		if rest == "" {
			return tokens, 0, api.OK
		}
		found := token.FindString(rest)
		if found == "" || no.MatchString(found) {
			return nil, len(text) - len(rest), api.ErrToken
		}
		tokens = append(tokens, found)
		rest = rest[len(found):]
	}
}

func compare(t *testing.T, text string) {
	t.Helper()
	tokens, place, errno := Cut(text)
	wantTokens, wantPlace, wantErrno := oracle(text)
	if !slices.Equal(tokens, wantTokens) || place != wantPlace || errno != wantErrno {
		t.Errorf("Cut(%q) = %q, %d, %d, want %q, %d, %d", text, tokens, place, errno, wantTokens, wantPlace, wantErrno)
	}
}

func TestP3AllRowsOfFourPieces(t *testing.T) {
	for _, a := range pieces {
		for _, b := range pieces {
			for _, c := range pieces {
				for _, d := range pieces {
					compare(t, a+b+c+d)
				}
			}
		}
	}
}

func TestP3AllPairsOfBytes(t *testing.T) {
	for a := range 256 {
		for b := range 256 {
			pair := string([]byte{byte(a), byte(b)})
			compare(t, pair)
			compare(t, "a"+pair+"a")
			compare(t, "'"+pair)
		}
	}
}

func TestP3EveryWordBesideNamesLikeIt(t *testing.T) {
	for _, word := range strings.Fields(words) {
		for _, behind := range []string{"", "x", "0", "_", "A", " x", "'a", "#", "."} {
			compare(t, word+behind)
			compare(t, "'"+word+behind)
			compare(t, "x"+word+behind)
			compare(t, "'x"+word+behind)
		}
		compare(t, word[:len(word)-1])
		compare(t, "'"+word[:len(word)-1])
	}
}

func FuzzCut(f *testing.F) {
	for _, text := range []string{"", "let x=1->_a#c", "a $", "'let", "1234567890123456789", ":=:"} {
		f.Add(text)
	}
	f.Fuzz(func(t *testing.T, text string) {
		if len(text) <= api.MaxText {
			compare(t, text)
		}
	})
}
