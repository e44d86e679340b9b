package run

// operation is what a sign does with two numbers.
type operation func(left, right int64) value

func operationOf(sign string) operation {
	switch sign {
	case "+":
		return func(left, right int64) value { return left + right }
	case "-":
		return func(left, right int64) value { return left - right }
	case "*":
		return func(left, right int64) value { return left * right }
	case "/":
		return func(left, right int64) value { return quotient(left, right) }
	case "=":
		return func(left, right int64) value { return left == right }
	}
	return func(left, right int64) value { return left < right }
}

// quotient leaves to Go what it says itself: it cuts off towards 0, and the least number divided by -1 is itself.
func quotient(left, right int64) int64 {
	if right == 0 {
		return 0
	}
	return left / right
}
