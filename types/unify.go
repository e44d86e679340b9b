package types

import "kiln/api"

// Unify finds out what the letters of two types must stand for if the types are one. It tells whether they can be, and be a type: if not, what it has found so far means nothing.
func Unify(one, other *Type) bool {
	places := 0
	return unify(one, other, &places)
}

// unify counts the places at which it had to look: each one is a place of the type that both shall be, so that too many of them make it too large.
func unify(one, other *Type, places *int) bool {
	one, other = one.root(), other.root()
	*places++
	switch {
	case one == other:
		return true
	case *places > api.MaxSize:
		return false
	case one.isLetter():
		return one.standFor(other)
	case other.isLetter():
		return other.standFor(one)
	case one.name != other.name:
		return false
	}
	for at := range one.parts {
		if !unify(one.parts[at], other.parts[at], places) {
			return false
		}
	}
	return true
}

// standFor refuses a type that holds the letter itself, or is too large. The letters of the type come to stand wherever this one does, so none of them may be deeper.
func (t *Type) standFor(other *Type) bool {
	fits := other.Fits() && other.walk(func(inner *Type) bool {
		if inner.isLetter() {
			inner.depth = min(inner.depth, t.depth)
		}
		return inner != t
	})
	if fits {
		t.found = other
	}
	return fits
}
