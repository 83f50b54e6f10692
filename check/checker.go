// Package check checks sentences ahead of working them out (P5).
package check

import (
	"cmp"
	"slices"

	"lineage/api"
	"lineage/tree"
	"lineage/work"
)

// Tables are the tables that there are, by their names.
type Tables map[string]*work.Table

// A checker keeps the first fault alone and goes on behind it: so the faults
// have the order of the checks, and no caller need look whether one went well.
type checker struct {
	tables Tables
	parts  Tables // what the names of the parts so far stand for
	errno  api.Errno
}

func (c *checker) must(hold bool, errno api.Errno) {
	if !hold && c.errno == api.OK {
		c.errno = errno
	}
}

// table is the part or else the table of this name; an empty one stands in, if
// there is neither.
func (c *checker) table(name string) *work.Table {
	table := cmp.Or(c.parts[name], c.tables[name])
	c.must(table != nil, api.ErrName)
	if table == nil {
		return &work.Table{}
	}
	return table
}

// Create checks a CREATE.
func Create(tables Tables, create tree.Create) api.Errno {
	c := &checker{tables: tables}
	c.must(tables[create.Table] == nil, api.ErrTwice)
	for i, column := range create.Columns {
		c.must(columnOf(create.Columns[:i], column.Name) < 0, api.ErrTwice)
	}
	c.must(len(create.Columns) <= api.MaxCols, api.ErrShape)
	return c.errno
}

// columnOf tells which one has this name; below 0: none.
func columnOf(columns []tree.Column, name string) int {
	return slices.IndexFunc(columns, func(column tree.Column) bool {
		return column.Name == name
	})
}

// Insert checks an INSERT.
func Insert(tables Tables, insert tree.Insert) ([][]work.Expr, api.Errno) {
	c := &checker{tables: tables}
	table := c.table(insert.Table)
	var rows [][]work.Expr
	for _, row := range insert.Rows {
		rows = append(rows, c.row(row, table.Columns))
	}
	if c.errno != api.OK {
		return nil, c.errno
	}
	return rows, api.OK
}

func (c *checker) row(row []tree.Expr, columns []tree.Column) []work.Expr {
	c.must(len(row) == len(columns), api.ErrShape)
	var exprs []work.Expr
	for i := range min(len(row), len(columns)) {
		expr, kind := c.expr(row[i], nil)
		c.must(fits(kind, columns[i].Kind), api.ErrType)
		exprs = append(exprs, expr)
	}
	return exprs
}

// Query checks a query: its parts in their order, then its body.
func Query(tables Tables, query tree.Query) (work.Query, api.Errno) {
	c := &checker{tables: tables, parts: Tables{}}
	var parts []work.Part
	for _, part := range query.Parts {
		parts = append(parts, c.part(part, query.Recursive))
	}
	body, columns := c.body(query.Body)
	if c.errno != api.OK {
		return work.Query{}, c.errno
	}
	return work.Query{Parts: parts, Columns: columns, Body: body}, api.OK
}
