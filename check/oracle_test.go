package check_test

import (
	"fmt"
	"maps"
	"slices"

	"kiln/api"
	"kiln/tree"
)

// The oracle types programs as books do: a substitution is put through everything again and again, and open letters are those that no variable around has. It is slow, and leans on nothing that the program does.

// term is a type: a letter, whose name begins with `'`, or a name with parts.
type term struct {
	name  string
	parts []term
}

func (t term) isLetter() bool { return t.name[0] == '\'' }

func (t term) size() int {
	size := 1
	for _, part := range t.parts {
		size += part.size()
	}
	return size
}

// letters gives the letters of a type in the order in which they come first.
func (t term) letters() []string {
	var all []string
	t.gather(&all, map[string]bool{})
	return all
}

func (t term) gather(all *[]string, known map[string]bool) {
	if t.isLetter() && !known[t.name] {
		known[t.name] = true
		*all = append(*all, t.name)
	}
	for _, part := range t.parts {
		part.gather(all, known)
	}
}

// put puts other types in the places of letters.
func (t term) put(places map[string]term) term {
	if t.isLetter() {
		if other, isThere := places[t.name]; isThere {
			return other
		}
		return t
	}
	parts := []term{}
	for _, part := range t.parts {
		parts = append(parts, part.put(places))
	}
	return term{t.name, parts}
}

func (t term) write(asPart, asArgument bool) string {
	text := t.name
	if t.name == "->" {
		text = t.parts[0].write(false, true) + " -> " + t.parts[1].write(false, false)
		asPart = asPart || asArgument
	} else {
		for _, part := range t.parts {
			text += " " + part.write(true, false)
		}
	}
	if asPart && len(t.parts) > 0 {
		return "(" + text + ")"
	}
	return text
}

// String names the letters in the order in which they come first.
func (t term) String() string {
	names := map[string]term{}
	for number, letter := range t.letters() {
		name := fmt.Sprintf("'%c", 'a'+number%26)
		if number >= 26 {
			name += fmt.Sprint(number / 26)
		}
		names[letter] = term{name: name}
	}
	return t.put(names).write(false, false)
}

func arrowTo(from, to term) term { return term{"->", []term{from, to}} }

type scheme struct {
	open []string
	term term
}

// around has the schemes of the variables in scope.
type around map[string]scheme

func (a around) with(name string, s scheme) around {
	wider := maps.Clone(a)
	wider[name] = s
	return wider
}

type constructor struct {
	data    *tree.Node
	variant *tree.Node
}

// refusal is what the oracle panics with.
type refusal api.Errno

// oracle has the substitution as a row of steps: each puts one type in the place of one letter, in all that comes behind it.
type oracle struct {
	constructors map[string]constructor
	types        map[string]int
	found        map[string]term
	made         int
	given        []term
}

func (o *oracle) letter() term {
	o.made++
	return term{name: fmt.Sprintf("'%d", o.made)}
}

// now gives what a type is by what has been found so far.
func (o *oracle) now(t term) term {
	if other, isThere := o.found[t.name]; isThere {
		return o.now(other)
	}
	parts := []term{}
	for _, part := range t.parts {
		parts = append(parts, o.now(part))
	}
	return term{t.name, parts}
}

func (o *oracle) unify(one, other term) {
	one, other = o.head(one), o.head(other)
	switch {
	case one.isLetter() && one.name == other.name:
	case one.isLetter():
		o.find(one.name, o.now(other))
	case other.isLetter():
		o.find(other.name, o.now(one))
	case one.name != other.name:
		panic(refusal(api.ErrType))
	default:
		for i := range one.parts {
			o.unify(one.parts[i], other.parts[i])
		}
	}
}

// head tells no more than the name that a type begins with.
func (o *oracle) head(t term) term {
	for {
		other, isThere := o.found[t.name]
		if !isThere {
			return t
		}
		t = other
	}
}

// find refuses at once what is larger than types may be: it would be refused in the end.
func (o *oracle) find(letter string, t term) {
	if t.size() > api.MaxSize || slices.Contains(t.letters(), letter) {
		panic(refusal(api.ErrType))
	}
	o.found[letter] = t
}

func plain(name string) term { return term{name: name} }

func (o *oracle) expect(n *tree.Node, a around, want term) {
	o.unify(o.expression(n, a), want)
}

func (o *oracle) expression(n *tree.Node, a around) term {
	t := o.form(n, a)
	o.given = append(o.given, t)
	return t
}

func (o *oracle) form(n *tree.Node, a around) term {
	part := func(at int) *tree.Node { return n.Parts[at] }
	switch n.Kind {
	case tree.Number:
		return plain("int")
	case tree.Bool:
		return plain("bool")
	case tree.Unit:
		return plain("unit")
	case tree.Variable:
		return o.instance(a[n.Text])
	case tree.Fun:
		x := o.letter()
		o.given = append(o.given, x)
		return arrowTo(x, o.expression(part(0), a.with(n.Text, scheme{term: x})))
	case tree.App:
		answer := o.letter()
		o.expect(part(0), a, arrowTo(o.expression(part(1), a), answer))
		return answer
	case tree.Let, tree.Rec:
		return o.expression(part(1), a.with(n.Text, o.bound(n, a)))
	case tree.If:
		o.expect(part(0), a, plain("bool"))
		answer := o.letter()
		o.expect(part(1), a, answer)
		o.expect(part(2), a, answer)
		return answer
	case tree.Seq:
		o.expect(part(0), a, plain("unit"))
		return o.expression(part(1), a)
	case tree.Set:
		o.expect(part(0), a, term{"ref", []term{o.expression(part(1), a)}})
		return plain("unit")
	case tree.Fetch:
		content := o.letter()
		o.expect(part(0), a, term{"ref", []term{content}})
		return content
	case tree.Calc:
		o.expect(part(0), a, plain("int"))
		o.expect(part(1), a, plain("int"))
		if n.Text == "=" || n.Text == "<" {
			return plain("bool")
		}
		return plain("int")
	case tree.Con:
		return o.con(n, func(part *tree.Node, want term) { o.expect(part, a, want) })
	}
	return o.match(n, a)
}

func (o *oracle) instance(s scheme) term {
	places := map[string]term{}
	for _, letter := range s.open {
		places[letter] = o.letter()
	}
	return o.now(s.term).put(places)
}

func (o *oracle) bound(n *tree.Node, a around) scheme {
	var t term
	if n.Kind == tree.Rec {
		own := o.letter()
		o.expect(n.Parts[0], a.with(n.Text, scheme{term: own}), own)
		t = own
	} else {
		t = o.expression(n.Parts[0], a)
	}
	t = o.now(t)
	if t.size() > api.MaxSize {
		panic(refusal(api.ErrType))
	}
	if !isValue(n.Parts[0]) {
		return scheme{term: t}
	}
	return scheme{o.openLetters(t, a), t}
}

func (o *oracle) openLetters(t term, a around) []string {
	var closed []string
	for _, s := range a {
		for _, letter := range o.now(s.term).letters() {
			if !slices.Contains(s.open, letter) {
				closed = append(closed, letter)
			}
		}
	}
	return slices.DeleteFunc(t.letters(), func(letter string) bool { return slices.Contains(closed, letter) })
}

func isValue(n *tree.Node) bool {
	if n.Kind == tree.Con {
		return !slices.ContainsFunc(n.Parts, func(part *tree.Node) bool { return !isValue(part) })
	}
	return slices.Contains([]tree.Kind{tree.Number, tree.Bool, tree.Unit, tree.Variable, tree.Fun}, n.Kind)
}

func (o *oracle) con(n *tree.Node, expect func(*tree.Node, term)) term {
	made := o.constructors[n.Text]
	whole := term{name: made.data.Text}
	places := map[string]term{}
	for _, part := range made.data.Parts {
		if part.Kind == tree.OwnLetter {
			letter := o.letter()
			whole.parts = append(whole.parts, letter)
			places["'"+part.Text] = letter
		}
	}
	for i, part := range n.Parts {
		expect(part, written(made.variant.Parts[i]).put(places))
	}
	return whole
}

func written(n *tree.Node) term {
	t := term{name: n.Text}
	switch n.Kind {
	case tree.Letter:
		return plain("'" + n.Text)
	case tree.Arrow:
		t.name = "->"
	}
	for _, part := range n.Parts {
		t.parts = append(t.parts, written(part))
	}
	return t
}

func (o *oracle) match(n *tree.Node, a around) term {
	subject, answer := o.expression(n.Parts[0], a), o.letter()
	for _, row := range n.Parts[1:] {
		inside := maps.Clone(a)
		o.pattern(row.Parts[0], subject, inside)
		o.expect(row.Parts[1], inside, answer)
	}
	return answer
}

func (o *oracle) pattern(n *tree.Node, want term, inside around) {
	var t term
	switch n.Kind {
	case tree.Wild:
		t = o.letter()
	case tree.Variable:
		t = o.letter()
		inside[n.Text] = scheme{term: t}
	case tree.Con:
		t = o.con(n, func(part *tree.Node, want term) { o.pattern(part, want, inside) })
	default:
		t = o.form(n, nil)
	}
	o.given = append(o.given, t)
	o.unify(t, want)
}
