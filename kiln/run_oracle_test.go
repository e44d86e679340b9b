package kiln_test

import (
	"maps"
	"math/big"

	"kiln/api"
	"kiln/tree"
)

// The oracle walks over the trees of a program again and again, in scopes that are copied, with numbers that have no bounds until they are cut. It is slow, and leans on nothing that the program does when it runs.

// around has the values of the variables in scope. Values are *big.Int, bool, nil for (), *shape, *slot and lambda.
type around map[string]any

func (a around) with(name string, v any) around {
	wider := maps.Clone(a)
	wider[name] = v
	return wider
}

type shape struct {
	name  string
	parts []any
}

type slot struct{ content any }

type lambda func(argument any) any

// oracle is one run; it panics with an end where it can't go on.
type oracle struct {
	input  []byte
	most   int
	result api.Result
}

type oraclesEnd int

func oraclesResult(declarations []*tree.Node, input string, steps int) (result api.Result) {
	o := &oracle{input: []byte(input), most: steps}
	defer func() {
		result = o.result
		if reason := recover(); reason != nil {
			result.End = int(reason.(oraclesEnd))
		}
	}()
	known := around{"put": lambda(o.put), "get": lambda(o.get), "ref": lambda(func(v any) any { return &slot{v} })}
	for _, declaration := range declarations {
		switch declaration.Kind {
		case tree.Let:
			known = known.with(declaration.Text, o.value(declaration.Parts[0], known))
		case tree.Rec:
			known = o.knowsItself(declaration, known)
		case tree.Do:
			o.value(declaration.Parts[0], known)
		}
	}
	return o.result
}

func (o *oracle) put(v any) any {
	low := new(big.Int).Mod(v.(*big.Int), big.NewInt(256))
	o.result.Output += string([]byte{byte(low.Int64())})
	return nil
}

func (o *oracle) get(any) any {
	if len(o.input) == 0 {
		return big.NewInt(-1)
	}
	first := o.input[0]
	o.input = o.input[1:]
	return big.NewInt(int64(first))
}

func (o *oracle) knowsItself(n *tree.Node, a around) around {
	inside := a.with(n.Text, nil)
	inside[n.Text] = o.value(n.Parts[0], inside)
	return inside
}

func (o *oracle) value(n *tree.Node, a around) any {
	part := func(at int) any { return o.value(n.Parts[at], a) }
	switch n.Kind {
	case tree.Variable:
		return a[n.Text]
	case tree.Fun:
		return lambda(func(argument any) any { return o.value(n.Parts[0], a.with(n.Text, argument)) })
	case tree.Let:
		return o.value(n.Parts[1], a.with(n.Text, part(0)))
	case tree.Rec:
		return o.value(n.Parts[1], o.knowsItself(n, a))
	case tree.If:
		if part(0).(bool) {
			return part(1)
		}
		return part(2)
	case tree.Seq:
		part(0)
		return part(1)
	case tree.Set:
		where := part(0).(*slot)
		where.content = part(1)
		return nil
	case tree.Fetch:
		return part(0).(*slot).content
	case tree.App:
		called := part(0).(lambda)
		argument := part(1)
		if o.result.Steps++; o.result.Steps > o.most {
			o.result.Steps--
			panic(oraclesEnd(api.Over))
		}
		return called(argument)
	case tree.Con:
		made := &shape{name: n.Text}
		for at := range n.Parts {
			made.parts = append(made.parts, part(at))
		}
		return made
	case tree.Calc:
		left := part(0).(*big.Int)
		return calculated(n.Text, left, part(1).(*big.Int))
	case tree.Match:
		return o.match(part(0), n.Parts[1:], a)
	}
	return written(n)
}

func (o *oracle) match(subject any, rows []*tree.Node, a around) any {
	for _, row := range rows {
		inside := maps.Clone(a)
		if fits(row.Parts[0], subject, inside) {
			return o.value(row.Parts[1], inside)
		}
	}
	panic(oraclesEnd(api.NoMatch))
}

// fits puts the variables of a pattern into the scope.
func fits(pattern *tree.Node, v any, inside around) bool {
	switch pattern.Kind {
	case tree.Wild:
		return true
	case tree.Variable:
		inside[pattern.Text] = v
		return true
	case tree.Number:
		return v.(*big.Int).String() == pattern.Text
	case tree.Con:
		made := v.(*shape)
		if made.name != pattern.Text {
			return false
		}
		for at, part := range pattern.Parts {
			if !fits(part, made.parts[at], inside) {
				return false
			}
		}
		return true
	}
	return v == written(pattern)
}

func written(n *tree.Node) any {
	switch n.Kind {
	case tree.Number:
		number, _ := new(big.Int).SetString(n.Text, 10)
		return number
	case tree.Bool:
		return n.Text == "true"
	}
	return nil
}

func calculated(sign string, left, right *big.Int) any {
	made := new(big.Int)
	switch sign {
	case "=":
		return left.Cmp(right) == 0
	case "<":
		return left.Cmp(right) < 0
	case "+":
		made.Add(left, right)
	case "-":
		made.Sub(left, right)
	case "*":
		made.Mul(left, right)
	case "/":
		if right.Sign() != 0 {
			made.Quo(left, right)
		}
	}
	return wrapped(made)
}

// wrapped brings a number between the least and the greatest one of 64 bits.
func wrapped(n *big.Int) *big.Int {
	half := new(big.Int).Lsh(big.NewInt(1), 63)
	whole := new(big.Int).Lsh(half, 1)
	shifted := n.Add(n, half)
	return shifted.Mod(shifted, whole).Sub(shifted, half)
}
