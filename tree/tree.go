// Package tree has the sentences of a text, as they are read.
package tree

import (
	"lineage/api"
	"lineage/words"
)

// Sentence is a Create, an Insert or a Query.
type Sentence interface{ isSentence() }

// Create is CREATE TABLE.
type Create struct {
	Table   string
	Columns []Column
}

// Column is a column of a table, of one of the kinds of package api.
type Column struct {
	Name string
	Kind int
}

// Insert is INSERT INTO.
type Insert struct {
	Table string
	Rows  [][]Expr
}

// Query is a body and the parts ahead of it.
type Query struct {
	Recursive bool
	Parts     []Part
	Body      Body
}

func (Create) isSentence() {}
func (Insert) isSentence() {}
func (Query) isSentence()  {}

// Part is a part of a query.
type Part struct {
	Name    string
	Columns []string
	Body    Body
}

// Body is a select and what is united with it.
type Body struct {
	First  Select
	Unions []Union
}

// Union is UNION, or UNION ALL, and the select behind it.
type Union struct {
	All    bool
	Select Select
}

// Select is a select. Without Items it is one of all columns (*).
type Select struct {
	Items   []Item
	Sources []Source
	Where   Expr // nil, if there is none
}

// Item is an item of a select; As is empty, if it has no AS.
type Item struct {
	Expr Expr
	As   string
}

// Source is a source of a select; As is empty, if it has no AS. The chains of
// a select are one list of sources: On is nil, unless it stands behind JOIN.
type Source struct {
	Name string
	As   string
	On   Expr
}

// Expr is a Binary, a Prefixed, an IsNull, a Literal or a Reference.
type Expr interface{ isExpr() }

// Binary is an operation on two operands.
type Binary struct {
	Op          words.Kind
	Left, Right Expr
}

// Prefixed is NOT, or a - ahead of a factor.
type Prefixed struct {
	Op      words.Kind
	Operand Expr
}

// IsNull is IS NULL, or IS NOT NULL.
type IsNull struct {
	Operand Expr
	Not     bool
}

// Literal is a value that stands in the text.
type Literal struct {
	Value api.Value
}

// Reference names a column; Source is empty, if none is named.
type Reference struct {
	Source string
	Column string
}

func (Binary) isExpr()    {}
func (Prefixed) isExpr()  {}
func (IsNull) isExpr()    {}
func (Literal) isExpr()   {}
func (Reference) isExpr() {}
