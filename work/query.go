// Package work works out what has been checked.
package work

import (
	"slices"

	"lineage/api"
	"lineage/tree"
	"lineage/values"
)

// Table has rows of these columns.
type Table struct {
	Columns []tree.Column
	Rows    [][]api.Value
}

// Query is a query that has been checked; Columns are those of its answer.
type Query struct {
	Columns []tree.Column
	Body    Body
}

// Body is a select and what is united with it.
type Body struct {
	First  Select
	Unions []Union
}

// Union is UNION, or UNION ALL, and the select behind it.
type Union struct {
	All    bool
	Select Select
}

// Select is a select; Where is nil, if there is none.
type Select struct {
	Sources []Source
	Where   Expr
	Items   []Expr
}

// Source is a source of a select; On is nil, if there is none.
type Source struct {
	Table *Table
	On    Expr
}

// Answer works out a query (P7).
func (q Query) Answer() (api.Answer, api.Errno) {
	rows, errno := q.Body.rows()
	if errno != api.OK {
		return api.Answer{}, errno
	}
	slices.SortFunc(rows, values.CompareRows)
	answer := api.Answer{Rows: rows}
	for _, column := range q.Columns {
		answer.Columns = append(answer.Columns, column.Name)
		answer.Kinds = append(answer.Kinds, column.Kind)
	}
	return answer, api.OK
}

func (b Body) rows() ([][]api.Value, api.Errno) {
	all, errno := b.First.rows()
	if errno != api.OK {
		return nil, errno
	}
	for _, union := range b.Unions {
		more, errno := union.Select.rows()
		if errno != api.OK {
			return nil, errno
		}
		all = append(all, more...)
		if !union.All {
			all = eachOnce(all)
		}
		if len(all) > api.MaxRows {
			return nil, api.ErrMany
		}
	}
	return all, api.OK
}

func eachOnce(rows [][]api.Value) [][]api.Value {
	slices.SortFunc(rows, values.CompareRows)
	return slices.CompactFunc(rows, slices.Equal)
}

// rows works out a select step by step (P8).
func (s Select) rows() ([][]api.Value, api.Errno) {
	rows := []Row{{}}
	for i, source := range s.Sources {
		if len(rows)*len(source.Table.Rows) > api.MaxMade {
			return nil, api.ErrMany
		}
		kept, errno := where(beside(rows, i, source.Table.Rows), source.On)
		if errno != api.OK {
			return nil, errno
		}
		rows = kept
	}
	rows, errno := where(rows, s.Where)
	if errno != api.OK {
		return nil, errno
	}
	if len(rows) > api.MaxRows {
		return nil, api.ErrMany
	}
	return spread(rows, func(made [][]api.Value, row *Row) ([][]api.Value, api.Errno) {
		return layBehind(made, s.Items, row)
	})
}

// beside lays each row of a source beside each row so far.
func beside(rows []Row, source int, more [][]api.Value) []Row {
	made := make([]Row, 0, len(rows)*len(more))
	for _, row := range rows {
		for _, next := range more {
			row[source] = next
			made = append(made, row)
		}
	}
	return made
}

// where leaves the rows for which a condition is true; without one, all.
func where(rows []Row, condition Expr) ([]Row, api.Errno) {
	if condition == nil {
		return rows, api.OK
	}
	return spread(rows, func(kept []Row, row *Row) ([]Row, api.Errno) {
		value, errno := condition.Of(row)
		if values.IsTrue(value) {
			kept = append(kept, *row)
		}
		return kept, errno
	})
}

// Rows works out rows of exprs that name no column.
func Rows(exprs [][]Expr) ([][]api.Value, api.Errno) {
	return spread(exprs, func(made [][]api.Value, row *[]Expr) ([][]api.Value, api.Errno) {
		return layBehind(made, *row, &Row{})
	})
}

// layBehind lays a row of exprs behind the rows that are made, in memory of its
// own: it may be handed out.
func layBehind(made [][]api.Value, exprs []Expr, row *Row) ([][]api.Value, api.Errno) {
	next := make([]api.Value, len(exprs))
	for i, expr := range exprs {
		value, errno := expr.Of(row)
		if errno != api.OK {
			return nil, errno
		}
		next[i] = value
	}
	return append(made, next), api.OK
}
