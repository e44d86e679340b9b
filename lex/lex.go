// Package lex cuts a text into tokens.
package lex

import (
	"strings"

	"kiln/api"
)

const (
	maxDigits   = 18
	singleSigns = "()=<+-*/;|!._"
)

// Cut gives the tokens of a text; or an error and the place that it speaks of.
func Cut(text string) ([]string, int, api.Errno) {
	if len(text) > api.MaxText {
		return nil, 0, api.ErrLong
	}
	var tokens []string
	at := gapLength(text)
	for at < len(text) {
		length := tokenLength(text[at:])
		if length == 0 {
			return nil, at, api.ErrToken
		}
		end := at + length
		// A piece of the text would share the text's memory with the answer.
		tokens = append(tokens, strings.Clone(text[at:end]))
		at = end + gapLength(text[end:])
	}
	return tokens, 0, api.OK
}

// gapLength counts the bytes at the head of rest that say nothing.
func gapLength(rest string) int {
	at := 0
	for at < len(rest) {
		switch rest[at] {
		case ' ', '\t', '\n':
			at++
		case '#':
			at += remarkLength(rest[at:])
		default:
			return at
		}
	}
	return at
}

// remarkLength leaves the byte 10 out: it is a gap of its own, and a remark at the end of the text has none.
func remarkLength(rest string) int {
	if length := strings.IndexByte(rest, '\n'); length >= 0 {
		return length
	}
	return len(rest)
}

// tokenLength counts the bytes of the longest token at the head of rest, which is not empty; 0 if none begins there.
func tokenLength(rest string) int {
	first := rest[0]
	switch {
	case isSmall(first):
		return nameLength(rest)
	case isGreat(first):
		return countWhile(rest, isConstructorByte)
	case isDigit(first):
		return numberLength(rest)
	case first == '\'':
		return letterLength(rest)
	}
	return signLength(rest)
}

// nameLength counts the bytes of the name or word at the head of rest; 0 if there is none.
func nameLength(rest string) int {
	if rest == "" || !isSmall(rest[0]) {
		return 0
	}
	return countWhile(rest, isNameByte)
}

// numberLength refuses a row of too many digits whole: no shorter piece of it is a token.
func numberLength(rest string) int {
	length := countWhile(rest, isDigit)
	if length > maxDigits {
		return 0
	}
	return length
}

// letterLength takes the longest name behind the `'` first: 'letx is a letter, and 'let is no letter 'le ahead of a t.
func letterLength(rest string) int {
	behind := rest[1:]
	length := nameLength(behind)
	if length == 0 || isWord(behind[:length]) {
		return 0
	}
	return 1 + length
}

func signLength(rest string) int {
	if strings.HasPrefix(rest, ":=") || strings.HasPrefix(rest, "->") {
		return 2
	}
	if strings.IndexByte(singleSigns, rest[0]) >= 0 {
		return 1
	}
	return 0
}

// countWhile counts the bytes at the head of rest that are all fit.
func countWhile(rest string, fit func(byte) bool) int {
	for at := range len(rest) {
		if !fit(rest[at]) {
			return at
		}
	}
	return len(rest)
}

// IsName tells names from the other tokens, words among them.
func IsName(token string) bool { return nameLength(token) > 0 && !isWord(token) }

// IsConstructor tells constructors from the other tokens.
func IsConstructor(token string) bool { return token != "" && isGreat(token[0]) }

// IsLetter tells letters of types from the other tokens.
func IsLetter(token string) bool { return token != "" && token[0] == '\'' }

// IsNumber tells numbers from the other tokens.
func IsNumber(token string) bool { return token != "" && isDigit(token[0]) }

func isWord(name string) bool {
	switch name {
	case "let", "rec", "in", "fun", "if", "then", "else",
		"match", "with", "end", "type", "do", "true", "false":
		return true
	}
	return false
}

func isNameByte(b byte) bool { return isSmall(b) || isDigit(b) || b == '_' }

func isConstructorByte(b byte) bool { return isNameByte(b) || isGreat(b) }

func isSmall(b byte) bool { return 'a' <= b && b <= 'z' }

func isGreat(b byte) bool { return 'A' <= b && b <= 'Z' }

func isDigit(b byte) bool { return '0' <= b && b <= '9' }
