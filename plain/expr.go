package plain

import (
	"strconv"
	"strings"

	"lineage/api"
	"lineage/tree"
	"lineage/words"
)

// The rules of the grammar for exprs, from the loosest to the tightest: where
// one of them stands, an expr of a looser one stands in ( and ) alone.
const (
	ruleExpr = iota
	ruleAnd
	ruleNot
	ruleCompared
	ruleSum
	ruleTerm
	ruleFactor
)

func ruleOf(expr tree.Expr) int {
	switch e := expr.(type) {
	case tree.Binary:
		return ruleOfOperation(e.Op)
	case tree.Prefixed:
		if e.Op == words.Not {
			return ruleNot
		}
	case tree.IsNull:
		return ruleCompared
	}
	return ruleFactor
}

func ruleOfOperation(op words.Kind) int {
	switch op {
	case words.Or:
		return ruleExpr
	case words.And:
		return ruleAnd
	case words.Plus, words.Minus, words.Bars:
		return ruleSum
	case words.Star, words.Slash, words.Percent:
		return ruleTerm
	}
	return ruleCompared
}

func (w *writer) expr(expr tree.Expr) {
	w.operand(expr, ruleExpr)
}

// operand writes an expr where the grammar has this rule.
func (w *writer) operand(expr tree.Expr, rule int) {
	if ruleOf(expr) >= rule {
		w.bare(expr)
		return
	}
	w.put(words.Open)
	w.bare(expr)
	w.put(words.Close)
}

func (w *writer) bare(expr tree.Expr) {
	switch e := expr.(type) {
	case tree.Binary:
		w.binary(e)
	case tree.Prefixed:
		w.prefixed(e)
	case tree.IsNull:
		w.operand(e.Operand, ruleSum)
		w.put(words.Is)
		if e.Not {
			w.put(words.Not)
		}
		w.put(words.Null)
	case tree.Literal:
		w.value(e.Value)
	case tree.Reference:
		w.reference(e)
	}
}

// binary leaves the left operand as loose as the operation itself, since the
// grammar reads a row of operations from the left; but it has no row of comparisons.
func (w *writer) binary(binary tree.Binary) {
	rule := ruleOfOperation(binary.Op)
	left := rule
	if rule == ruleCompared {
		left = ruleSum
	}
	w.operand(binary.Left, left)
	w.put(binary.Op)
	w.operand(binary.Right, rule+1)
}

func (w *writer) prefixed(prefixed tree.Prefixed) {
	w.put(prefixed.Op)
	if prefixed.Op == words.Minus {
		w.glue()
	}
	w.operand(prefixed.Operand, ruleOf(prefixed))
}

func (w *writer) reference(reference tree.Reference) {
	if reference.Source != "" {
		w.word(reference.Source)
		w.put(words.Dot)
	}
	w.word(reference.Column)
}

func (w *writer) value(value api.Value) {
	switch value.Kind {
	case api.Null:
		w.put(words.Null)
	case api.Int:
		w.word(strconv.Itoa(value.Int))
	case api.Text:
		w.word("'" + strings.ReplaceAll(value.Text, "'", "''") + "'")
	case api.Bool:
		if value.Bool {
			w.put(words.True)
		} else {
			w.put(words.False)
		}
	}
}
