// Package work works out what has been checked.
package work

import (
	"slices"

	"lineage/api"
	"lineage/tree"
	"lineage/values"
)

// Table has rows of these columns.
type Table struct {
	Columns []tree.Column
	Rows    [][]api.Value
}

// Query is a query that has been checked; Columns are those of its answer.
type Query struct {
	Parts   []Part
	Columns []tree.Column
	Body    Body
}

// Part is a part of a query. Table is what its name stands for, and has no rows
// until the part has been worked out.
type Part struct {
	Table    *Table
	OfItself bool // it speaks of itself
	Body     Body
}

// Body is a select and what is united with it.
type Body struct {
	First  Select
	Unions []Union
}

// Union is UNION, or UNION ALL, and the select behind it.
type Union struct {
	All    bool
	Select Select
}

// Answer works out a query (P7).
func (q Query) Answer() (api.Answer, api.Errno) {
	d := &desk{}
	for _, part := range q.Parts {
		if errno := part.workOut(d); errno != api.OK {
			return api.Answer{}, errno
		}
	}
	rows, errno := q.Body.rows(d)
	if errno != api.OK {
		return api.Answer{}, errno
	}
	slices.SortFunc(rows, values.CompareRows)
	answer := api.Answer{Rows: rows}
	for _, column := range q.Columns {
		answer.Columns = append(answer.Columns, column.Name)
		answer.Kinds = append(answer.Kinds, column.Kind)
	}
	return answer, api.OK
}

func (p Part) workOut(d *desk) api.Errno {
	rows := p.Body.rows
	if p.OfItself {
		rows = p.rounds
	}
	var errno api.Errno
	p.Table.Rows, errno = rows(d)
	return errno
}

// rows are in a list of their own, and not in the desk's.
func (b Body) rows(d *desk) ([][]api.Value, api.Errno) {
	first, errno := b.First.rows(d)
	if errno != api.OK {
		return nil, errno
	}
	all := slices.Clone(first)
	for _, union := range b.Unions {
		more, errno := union.Select.rows(d)
		if errno != api.OK {
			return nil, errno
		}
		all = append(all, more...)
		if !union.All {
			all = eachOnce(all)
		}
		if len(all) > api.MaxRows {
			return nil, api.ErrMany
		}
	}
	return all, api.OK
}

func eachOnce(rows [][]api.Value) [][]api.Value {
	slices.SortFunc(rows, values.CompareRows)
	return slices.CompactFunc(rows, slices.Equal)
}
