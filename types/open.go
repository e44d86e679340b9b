package types

// Open opens all letters of a type that stand in more than so many values of `let`: no variable around has them in its type. The type must fit.
func (t *Type) Open(depth int) {
	t.walk(func(inner *Type) bool {
		if inner.isLetter() && inner.depth > depth {
			inner.depth = openDepth
		}
		return true
	})
}

// Instance gives the type with new letters, of that depth, in the places of the open ones. The type must fit.
func (t *Type) Instance(depth int) *Type {
	return t.instance(depth, map[*Type]*Type{})
}

func (t *Type) instance(depth int, letters map[*Type]*Type) *Type {
	t = t.root()
	if t.isLetter() {
		return t.letterInstance(depth, letters)
	}
	parts := make([]*Type, len(t.parts))
	for at, part := range t.parts {
		parts[at] = part.instance(depth, letters)
	}
	return Named(t.name, parts...)
}

// letterInstance gives the same letter wherever the same open one stands.
func (t *Type) letterInstance(depth int, letters map[*Type]*Type) *Type {
	if t.depth != openDepth {
		return t
	}
	if letters[t] == nil {
		letters[t] = NewLetter(depth)
	}
	return letters[t]
}
