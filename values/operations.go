package values

import (
	"lineage/api"
	"lineage/words"
)

// Binary works out an operation on two operands of the kinds that it takes.
func Binary(op words.Kind, left, right api.Value) (api.Value, api.Errno) {
	switch op {
	case words.And, words.Or:
		return decided(left, right, truth(op == words.Or)), api.OK
	}
	if isNull(left) || isNull(right) {
		return api.Value{}, api.OK
	}
	switch op {
	case words.Plus, words.Minus, words.Star, words.Slash, words.Percent:
		return calculated(op, left.Int, right.Int)
	case words.Bars:
		return joined(left.Text, right.Text)
	}
	return truth(holds(op, Compare(left, right))), api.OK
}

// Not is NOT.
func Not(operand api.Value) api.Value {
	if isNull(operand) {
		return api.Value{}
	}
	return truth(!operand.Bool)
}

// IsNull is IS NULL.
func IsNull(operand api.Value) api.Value {
	return truth(isNull(operand))
}

func isNull(value api.Value) bool {
	return value.Kind == api.Null
}

// IsTrue tells whether a value is true, and not false or null.
func IsTrue(value api.Value) bool {
	return value == truth(true)
}

func truth(is bool) api.Value {
	return api.Value{Kind: api.Bool, Bool: is}
}

// decided is AND and OR: one operand of the deciding value is enough, whatever
// the other one is.
func decided(left, right, deciding api.Value) api.Value {
	switch {
	case left == deciding || right == deciding:
		return deciding
	case isNull(left) || isNull(right):
		return api.Value{}
	}
	return Not(deciding)
}

func joined(left, right string) (api.Value, api.Errno) {
	if len(left)+len(right) > api.MaxLong {
		return api.Value{}, api.ErrValue
	}
	return api.Value{Kind: api.Text, Text: left + right}, api.OK
}

// holds tells whether a comparison is true of two values in this order.
func holds(op words.Kind, order int) bool {
	switch op {
	case words.Equal:
		return order == 0
	case words.Unequal:
		return order != 0
	case words.Less:
		return order < 0
	case words.LessEqual:
		return order <= 0
	case words.Greater:
		return order > 0
	}
	return order >= 0
}
