package run

// value is a number (int64), a truth (bool), a unit, a *data, a function or a *cell. The types of a program say ahead of its run which of them it is, wherever it is used.
type value any

type unit struct{}

// data is what a con has become.
type data struct {
	constructor string
	parts       []value
}

type cell struct{ content value }

// function goes on to what comes next with its answer to the argument.
type function func(argument value, then next) rest

// scope is an environment: it has the values of the variables around an expression, the last one first.
type scope struct {
	value value
	outer *scope
}

// with leaves the scope as it is: functions that have been made in it keep it.
func (s *scope) with(v value) *scope { return &scope{v, s} }

// outwards gives the value of the variable that has so many ahead of it.
func (s *scope) outwards(variables int) value {
	for range variables {
		s = s.outer
	}
	return s.value
}
