package values

import (
	"math"

	"lineage/api"
	"lineage/words"
)

func calculated(op words.Kind, a, b int) (api.Value, api.Errno) {
	number, exists := calculate(op, a, b)
	if !exists {
		return api.Value{}, api.ErrValue
	}
	return api.Value{Kind: api.Int, Int: number}, api.OK
}

func calculate(op words.Kind, a, b int) (int, bool) {
	switch op {
	case words.Plus:
		return sum(a, b)
	case words.Minus:
		return difference(a, b)
	case words.Star:
		return product(a, b)
	case words.Slash:
		return quotient(a, b)
	}
	return rest(a, b)
}

// A sum that is wrapped round lies on the wrong side of its first number; so
// does a difference.
func sum(a, b int) (int, bool) {
	made := a + b
	return made, (made > a) == (b > 0)
}

func difference(a, b int) (int, bool) {
	made := a - b
	return made, (made < a) == (b > 0)
}

// product asks for the sign, too, since the least number divided by -1 is
// wrapped round to itself.
func product(a, b int) (int, bool) {
	if a == 0 || b == 0 {
		return 0, true
	}
	made := a * b
	negative := (a < 0) != (b < 0)
	return made, made/b == a && (made < 0) == negative
}

func quotient(a, b int) (int, bool) {
	if b == 0 || a == math.MinInt64 && b == -1 {
		return 0, false
	}
	return a / b, true
}

func rest(a, b int) (int, bool) {
	if b == 0 {
		return 0, false
	}
	return a % b, true
}
