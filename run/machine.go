// Package run works programs out that have types: expressions become closures, and a run that can't go on gives up by panic.
package run

import (
	"kiln/api"
	"kiln/names"
	"kiln/tree"
)

// stop is what a run panics with where it can't go on: how it has ended.
type stop int

const (
	noRowFits   stop = api.NoMatch
	stepsAreOut stop = api.Over
)

// Machine is what all parts of one run have in common.
type Machine struct {
	input  string // what is not yet got of it
	output []byte
	most   int // steps that may be done
	done   int // steps that are
}

// New makes a machine for one run.
func New(input string, steps int) *Machine { return &Machine{input: input, most: steps} }

// Work works declarations out. It gives up by panic: EndOf tells what that means.
func (m *Machine) Work(declarations []*tree.Node) {
	b := builder{step: m.step, places: names.Table[int]{}}
	program := b.within(func() code { return b.program(declarations) }, "put", "get", "ref")
	var outermost *scope
	workOut(program, outermost.with(function(m.put)).with(function(m.get)).with(function(newCell)))
}

// EndOf tells how a run has ended by what was caught of it, nil if it did not give up. Any other panic is a fault of kiln, not of a program, and must not pass for an end.
func EndOf(caught any) int {
	if caught == nil {
		return api.Done
	}
	reason, gaveUp := caught.(stop)
	if !gaveUp {
		panic(caught)
	}
	return int(reason)
}

// Result gives what the run has done till now, for a run that has ended so.
func (m *Machine) Result(end int) api.Result {
	return api.Result{Output: string(m.output), End: end, Steps: m.done}
}

func (m *Machine) step() {
	if m.done == m.most {
		panic(stepsAreOut)
	}
	m.done++
}

// put keeps the lowest 8 bits, which are the number modulo 256, below 0 too.
func (m *Machine) put(number value, then next) rest {
	m.output = append(m.output, byte(number.(int64)))
	return then(unit{})
}

func (m *Machine) get(_ value, then next) rest {
	if m.input == "" {
		return then(int64(-1))
	}
	first := m.input[0]
	m.input = m.input[1:]
	return then(int64(first))
}

func newCell(content value, then next) rest { return then(&cell{content}) }
