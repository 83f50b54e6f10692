package reading

import (
	"lineage/api"
	"lineage/tree"
	"lineage/words"
)

func (r *reader) expr() tree.Expr {
	return r.leftToRight(r.and, words.Or)
}

func (r *reader) and() tree.Expr {
	return r.leftToRight(r.not, words.And)
}

func (r *reader) not() tree.Expr {
	if !r.deeper(words.Not) {
		return r.compared()
	}
	operand := r.not()
	r.shallower()
	return tree.Prefixed{Op: words.Not, Operand: operand}
}

func (r *reader) compared() tree.Expr {
	left := r.sum()
	if r.skip(words.Is) {
		not := r.skip(words.Not)
		r.must(words.Null)
		return tree.IsNull{Operand: left, Not: not}
	}
	op, taken := r.take(words.Equal, words.Unequal,
		words.Less, words.LessEqual, words.Greater, words.GreaterEqual)
	if !taken {
		return left
	}
	return tree.Binary{Op: op.Kind, Left: left, Right: r.sum()}
}

func (r *reader) sum() tree.Expr {
	return r.leftToRight(r.term, words.Plus, words.Minus, words.Bars)
}

func (r *reader) term() tree.Expr {
	return r.leftToRight(r.factor, words.Star, words.Slash, words.Percent)
}

// leftToRight reads operands with any of these operations between; what has
// been read so far is the left operand of the next operation.
func (r *reader) leftToRight(operand func() tree.Expr, ops ...words.Kind) tree.Expr {
	left := operand()
	for {
		op, taken := r.take(ops...)
		if !taken {
			return left
		}
		left = tree.Binary{Op: op.Kind, Left: left, Right: operand()}
	}
}

func (r *reader) factor() tree.Expr {
	switch {
	case r.deeper(words.Minus):
		operand := r.factor()
		r.shallower()
		return tree.Prefixed{Op: words.Minus, Operand: operand}
	case r.deeper(words.Open):
		within := r.expr()
		r.must(words.Close)
		r.shallower()
		return within
	}
	word, taken := r.take(words.Name, words.Number, words.String,
		words.True, words.False, words.Null)
	if !taken {
		r.fail(api.ErrText)
		return nil
	}
	if word.Kind == words.Name {
		return r.reference(word.Text)
	}
	return tree.Literal{Value: valueOf(word)}
}

func (r *reader) reference(first string) tree.Expr {
	if !r.skip(words.Dot) {
		return tree.Reference{Column: first}
	}
	return tree.Reference{Source: first, Column: r.name()}
}

func valueOf(word words.Word) api.Value {
	switch word.Kind {
	case words.Number:
		return api.Value{Kind: api.Int, Int: word.Number}
	case words.String:
		return api.Value{Kind: api.Text, Text: word.Text}
	case words.True, words.False:
		return api.Value{Kind: api.Bool, Bool: word.Kind == words.True}
	}
	return api.Value{Kind: api.Null}
}
