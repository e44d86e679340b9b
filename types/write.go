package types

import (
	"strconv"
	"strings"
)

const smallLetters = 26

// writer writes one type: its letters are named in the order in which they come first.
type writer struct {
	out     strings.Builder
	letters map[*Type]int
}

// String writes a type that fits.
func (t *Type) String() string {
	w := writer{letters: map[*Type]int{}}
	w.write(t)
	return w.out.String()
}

func (w *writer) write(t *Type) {
	t = t.root()
	switch {
	case t.isLetter():
		w.out.WriteString(letterName(w.numberOf(t)))
	case t.name == arrow:
		w.writePart(t.parts[0], t.parts[0].root().name == arrow)
		w.out.WriteString(" -> ")
		w.write(t.parts[1])
	default:
		w.out.WriteString(t.name)
		for _, part := range t.parts {
			w.out.WriteByte(' ')
			w.writePart(part, len(part.root().parts) > 0)
		}
	}
}

func (w *writer) writePart(t *Type, inBrackets bool) {
	if !inBrackets {
		w.write(t)
		return
	}
	w.out.WriteByte('(')
	w.write(t)
	w.out.WriteByte(')')
}

func (w *writer) numberOf(letter *Type) int {
	number, isKnown := w.letters[letter]
	if !isKnown {
		number = len(w.letters)
		w.letters[letter] = number
	}
	return number
}

// letterName gives 'a to 'z, then 'a1 to 'z1, and so on.
func letterName(number int) string {
	name := "'" + string(rune('a'+number%smallLetters))
	if round := number / smallLetters; round > 0 {
		name += strconv.Itoa(round)
	}
	return name
}
