package work

import (
	"lineage/api"
	"lineage/values"
	"lineage/words"
)

// Row is a row of a select as far as its sources stand side by side: of each of
// them the number of the row that is in it. The numbers are small, since there
// may be many rows to lay by.
type Row [api.MaxSources]int32

// Expr is an expr that has been checked.
type Expr interface {
	// Of works out what the expr is in a row, or answers ErrValue.
	Of(row *Row) (api.Value, api.Errno)
}

// Literal is a value that stands in the text.
type Literal struct {
	Value api.Value
}

// Of is the value itself.
func (l *Literal) Of(*Row) (api.Value, api.Errno) {
	return l.Value, api.OK
}

// Column is a column of a source, which has the rows of a table; both are
// counted from 0.
type Column struct {
	Table          *Table
	Source, Column int
}

// Of is what the row has in that column.
func (c *Column) Of(row *Row) (api.Value, api.Errno) {
	return c.Table.Rows[row[c.Source]][c.Column], api.OK
}

// Binary is an operation on two operands.
type Binary struct {
	Op          words.Kind
	Left, Right Expr
}

// Of works out both sides, whatever the left one is.
func (b *Binary) Of(row *Row) (api.Value, api.Errno) {
	left, errno := b.Left.Of(row)
	if errno != api.OK {
		return api.Value{}, errno
	}
	right, errno := b.Right.Of(row)
	if errno != api.OK {
		return api.Value{}, errno
	}
	return values.Binary(b.Op, left, right)
}

// Not is NOT.
type Not struct {
	Operand Expr
}

// Of is the other truth.
func (n *Not) Of(row *Row) (api.Value, api.Errno) {
	operand, errno := n.Operand.Of(row)
	if errno != api.OK {
		return api.Value{}, errno
	}
	return values.Not(operand), api.OK
}

// IsNull is IS NULL.
type IsNull struct {
	Operand Expr
}

// Of is true or false, and never null.
func (n *IsNull) Of(row *Row) (api.Value, api.Errno) {
	operand, errno := n.Operand.Of(row)
	if errno != api.OK {
		return api.Value{}, errno
	}
	return values.IsNull(operand), api.OK
}
