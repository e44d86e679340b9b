package run

import "slices"

// code is what an expression becomes: a function of an environment that works the expression out there, and goes on to what comes next with its value.
type code func(around *scope, then next) rest

// next is what is to be done with a value.
type next func(v value) rest

// rest is what is left of a run, nil where nothing is. Functions hand it back to the loop in workOut when they begin and when they end, so that the stack of Go never holds more than the forms of one of them: a run may be some millions of forms deep, and where that stack is too large the whole process ends, past all recover.
type rest func() rest

// workOut does all that is left, one thing behind the other.
func workOut(whole code, around *scope) {
	left := whole(around, func(value) rest { return nil })
	for left != nil {
		left = left()
	}
}

// later hands back what comes next, where calling it would go deeper.
func later(then next) next {
	return func(v value) rest {
		return func() rest { return then(v) }
	}
}

func always(v value) code {
	return func(_ *scope, then next) rest { return then(v) }
}

// variable is one that has so many others between itself and the expression.
func variable(between int) code {
	return func(around *scope, then next) rest { return then(around.outwards(between)) }
}

// fun makes a function that closes over the scope in which it stands.
func fun(body code) code {
	return func(around *scope, then next) rest {
		return then(function(func(argument value, then next) rest {
			return func() rest { return body(around.with(argument), later(then)) }
		}))
	}
}

// apply has the step told just ahead of it: by then both parts are worked out.
func apply(step func(), called, argument code) code {
	return func(around *scope, then next) rest {
		return called(around, func(f value) rest {
			return argument(around, func(a value) rest {
				step()
				return f.(function)(a, then)
			})
		})
	}
}

func let(bound, body code) code {
	return func(around *scope, then next) rest {
		return bound(around, func(v value) rest { return body(around.with(v), then) })
	}
}

// rec works a function out in a scope in which it stands itself; that it does so is filled in when the function is there.
func rec(bound, body code) code {
	return func(around *scope, then next) rest {
		own := around.with(nil)
		return bound(own, func(v value) rest {
			own.value = v
			return body(own, then)
		})
	}
}

func choice(condition, yes, no code) code {
	return func(around *scope, then next) rest {
		return condition(around, func(v value) rest {
			if v.(bool) {
				return yes(around, then)
			}
			return no(around, then)
		})
	}
}

func sequence(first, second code) code {
	return func(around *scope, then next) rest {
		return first(around, func(value) rest { return second(around, then) })
	}
}

func set(place, content code) code {
	return func(around *scope, then next) rest {
		return place(around, func(c value) rest {
			return content(around, func(v value) rest {
				c.(*cell).content = v
				return then(unit{})
			})
		})
	}
}

func fetch(place code) code {
	return func(around *scope, then next) rest {
		return place(around, func(c value) rest { return then(c.(*cell).content) })
	}
}

func calculation(calculate operation, left, right code) code {
	return func(around *scope, then next) rest {
		return left(around, func(l value) rest {
			return right(around, func(r value) rest {
				return then(calculate(l.(int64), r.(int64)))
			})
		})
	}
}

// con is built from its last part on: each part adds its value to those of the parts ahead of it, and goes on to the parts behind it.
func con(constructor string, parts ...code) code {
	whole := func(_ *scope, ahead []value, then next) rest {
		return then(&data{constructor, ahead})
	}
	for _, part := range slices.Backward(parts) {
		behind := whole
		whole = func(around *scope, ahead []value, then next) rest {
			return part(around, func(v value) rest { return behind(around, append(ahead, v), then) })
		}
	}
	return func(around *scope, then next) rest { return whole(around, nil, then) }
}

// match goes on with the first row that fits.
func match(subject code, rows ...row) code {
	return func(around *scope, then next) rest {
		return subject(around, func(v value) rest {
			for _, r := range rows {
				if inside, fits := r.pattern(v, around); fits {
					return r.body(inside, then)
				}
			}
			panic(noRowFits)
		})
	}
}
