package check_test

import (
	"slices"
	"testing"

	"kiln/api"
	"kiln/check"
	"kiln/parse"
	"kiln/tree"
)

// answer is what is told of a program: the lines of its names; or an error, and the declaration.
type answer struct {
	lines []string
	place int
	errno api.Errno
}

func (a answer) equal(other answer) bool {
	return slices.Equal(a.lines, other.lines) && a.place == other.place && a.errno == other.errno
}

func answerOf(text string) answer {
	program, place, errno := check.Read(text)
	if errno != api.OK {
		return answer{nil, place, errno}
	}
	var lines []string
	for _, binding := range program.Bindings {
		lines = append(lines, binding.Name+" : "+binding.Type.String())
	}
	return answer{lines, place, errno}
}

func oraclesAnswer(declarations []*tree.Node) answer {
	o := &oracle{constructors: map[string]constructor{}, types: map[string]int{"int": 0, "bool": 0, "unit": 0, "ref": 1}, found: map[string]term{}}
	known := around{
		"put": {nil, arrowTo(plain("int"), plain("unit"))},
		"get": {nil, arrowTo(plain("unit"), plain("int"))},
		"ref": {[]string{"'r"}, arrowTo(plain("'r"), term{"ref", []term{plain("'r")}})},
	}
	var lines []string
	for place, declaration := range declarations {
		s, errno := o.declaration(declaration, known)
		if errno != api.OK {
			return answer{nil, place, errno}
		}
		if declaration.Kind == tree.Let || declaration.Kind == tree.Rec {
			known[declaration.Text] = s
			lines = append(lines, declaration.Text+" : "+s.term.String())
		}
	}
	return answer{lines, 0, api.OK}
}

func (o *oracle) declaration(n *tree.Node, known around) (s scheme, errno api.Errno) {
	defer func() {
		if reason := recover(); reason != nil {
			s, errno = scheme{}, api.Errno(reason.(refusal))
		}
	}()
	var f faults
	var scope []string
	for name := range known {
		scope = append(scope, name)
	}
	switch n.Kind {
	case tree.Type:
		o.data(n, &f)
	case tree.Rec:
		o.variables(n.Parts[0], append(scope, n.Text), &f)
	default:
		o.variables(n.Parts[0], scope, &f)
	}
	if errno := f.first(); errno != api.OK {
		return scheme{}, errno
	}
	if n.Kind == tree.Type {
		o.declareData(n)
		return scheme{}, api.OK
	}
	return o.typed(n, known), api.OK
}

func (o *oracle) declareData(n *tree.Node) {
	o.types[n.Text] = 0
	for _, part := range n.Parts {
		if part.Kind == tree.OwnLetter {
			o.types[n.Text]++
		} else {
			o.constructors[part.Text] = constructor{n, part}
		}
	}
}

func (o *oracle) typed(n *tree.Node, known around) scheme {
	o.given = nil
	var s scheme
	if n.Kind == tree.Do {
		o.expect(n.Parts[0], known, plain("unit"))
	} else {
		s = o.bound(n, known)
		if len(s.open) != len(s.term.letters()) {
			panic(refusal(api.ErrType))
		}
	}
	for _, t := range o.given {
		if o.now(t).size() > api.MaxSize {
			panic(refusal(api.ErrType))
		}
	}
	return s
}

func holdAgainstOracle(t *testing.T, text string) answer {
	t.Helper()
	declarations, _, errno := parse.Program(text)
	if errno != api.OK {
		t.Fatalf("%q has not the form", text)
	}
	got, want := answerOf(text), oraclesAnswer(declarations)
	if !got.equal(want) {
		t.Errorf("%q: %v, the oracle says %v", text, got, want)
	}
	return got
}

// countAnswers holds programs against the oracle, and counts how often each error comes out.
func countAnswers(t *testing.T, programs int, program func() string) map[api.Errno]int {
	t.Helper()
	counts := map[api.Errno]int{}
	for range programs {
		text := program()
		if len(text) > api.MaxText {
			continue
		}
		counts[holdAgainstOracle(t, text).errno]++
		if t.Failed() {
			t.FailNow()
		}
	}
	return counts
}

func TestP5RandomProgramsAgainstTheOracle(t *testing.T) {
	counts := countAnswers(t, 30000, newDice(1).program)
	for _, errno := range []api.Errno{api.OK, api.ErrName, api.ErrArity, api.ErrType} {
		if counts[errno] < 500 {
			t.Errorf("too few programs with the answer %d: %v", errno, counts)
		}
	}
}

// TestP5LargeTypesAgainstTheOracle: many of these types are about as large as types may be.
func TestP5LargeTypesAgainstTheOracle(t *testing.T) {
	counts := countAnswers(t, 2500, newDice(2).largeProgram)
	if counts[api.OK] < 500 || counts[api.ErrType] < 500 || len(counts) != 2 {
		t.Errorf("the answers are %v", counts)
	}
}

func FuzzRead(f *testing.F) {
	d := newDice(3)
	for range 100 {
		f.Add(d.program())
	}
	f.Fuzz(func(t *testing.T, text string) {
		declarations, _, errno := parse.Program(text)
		if errno != api.OK || len(text) > 400 {
			return
		}
		if got, want := answerOf(text), oraclesAnswer(declarations); !got.equal(want) {
			t.Errorf("%q: %v, the oracle says %v", text, got, want)
		}
	})
}
