package check

import (
	"lineage/api"
	"lineage/tree"
	"lineage/words"
	"lineage/work"
)

// expr checks an expr with these sources, and answers its kind, too: Null, if
// it is NULL itself, which is of any.
func (c *checker) expr(expr tree.Expr, sources []source) (work.Expr, int) {
	switch e := expr.(type) {
	case tree.Binary:
		left, leftKind := c.expr(e.Left, sources)
		right, rightKind := c.expr(e.Right, sources)
		return &work.Binary{Op: e.Op, Left: left, Right: right}, c.operation(e.Op, leftKind, rightKind)
	case tree.Prefixed:
		operand, kind := c.expr(e.Operand, sources)
		return prefixed(e.Op, operand), c.operation(e.Op, kind)
	case tree.IsNull:
		operand, _ := c.expr(e.Operand, sources)
		return isNull(operand, e.Not), api.Bool
	case tree.Literal:
		return &work.Literal{Value: e.Value}, e.Value.Kind
	case tree.Reference:
		return c.reference(e, sources)
	}
	return &work.Literal{}, api.Null
}

// prefixed has a - as the document explains it: 0 less the operand.
func prefixed(op words.Kind, operand work.Expr) work.Expr {
	if op == words.Not {
		return &work.Not{Operand: operand}
	}
	zero := &work.Literal{Value: api.Value{Kind: api.Int}}
	return &work.Binary{Op: words.Minus, Left: zero, Right: operand}
}

func isNull(operand work.Expr, not bool) work.Expr {
	if not {
		return &work.Not{Operand: &work.IsNull{Operand: operand}}
	}
	return &work.IsNull{Operand: operand}
}

// operation asks whether operands of these kinds are such as the operation
// takes, and answers the kind of what comes of them.
func (c *checker) operation(op words.Kind, operands ...int) int {
	wanted, made := kindsOf(op)
	for _, kind := range operands {
		if wanted == api.Null {
			wanted = kind
		}
		c.must(fits(kind, wanted), api.ErrType)
	}
	return made
}

// kindsOf tells the kind of the operands (Null: any, but all of one) and the
// kind of what comes of them.
func kindsOf(op words.Kind) (operands, made int) {
	switch op {
	case words.Plus, words.Minus, words.Star, words.Slash, words.Percent:
		return api.Int, api.Int
	case words.Bars:
		return api.Text, api.Text
	case words.And, words.Or, words.Not:
		return api.Bool, api.Bool
	}
	return api.Null, api.Bool
}

func fits(kind, wanted int) bool {
	return kind == wanted || kind == api.Null
}

func (c *checker) reference(reference tree.Reference, sources []source) (work.Expr, int) {
	var found []*work.Column
	kind := api.Null
	for i, source := range sources {
		if reference.Source != "" && reference.Source != source.name {
			continue
		}
		if k := columnOf(source.table.Columns, reference.Column); k >= 0 {
			found = append(found, &work.Column{Table: source.table, Source: i, Column: k})
			kind = source.table.Columns[k].Kind
		}
	}
	c.must(len(found) > 0, api.ErrName)
	c.must(len(found) < 2, api.ErrTwice)
	if len(found) == 0 {
		return &work.Literal{}, kind
	}
	return found[0], kind
}
