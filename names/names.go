// Package names has the one table of all that names stand for.
package names

// Space is one of the three spaces of names.
type Space int

const (
	Variables Space = iota
	Constructors
	Types
)

// Key is a name together with its space: in each space the same name stands for something else.
type Key struct {
	Space Space
	Name  string
}

// Table has what the names of all three spaces stand for.
type Table[Meaning any] map[Key]Meaning

// Bind lets a name stand for something, and gives what makes it stand again for what it stood for before, if it did for anything.
func (t Table[Meaning]) Bind(key Key, meaning Meaning) (unbind func()) {
	before, wasThere := t[key]
	t[key] = meaning
	return func() {
		if wasThere {
			t[key] = before
			return
		}
		delete(t, key)
	}
}

// Has tells whether a name stands for anything.
func (t Table[Meaning]) Has(key Key) bool {
	_, isThere := t[key]
	return isThere
}
