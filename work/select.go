package work

import (
	"lineage/api"
	"lineage/values"
)

// Select is a select; Where is nil, if there is none.
type Select struct {
	Sources []Source
	Where   Expr
	Items   []Expr
}

// Source is a source of a select; On is nil, if there is none.
type Source struct {
	Table *Table
	On    Expr
}

// desk has the buffers in which the selects of a query are worked out, one
// behind the other.
type desk struct {
	rows buffer[Row]
	made buffer[[]api.Value]
}

// rows works out a select step by step (P8). The rows are new memory, but their
// list is the desk's, and stands until the next select is worked out there.
func (s Select) rows(d *desk) ([][]api.Value, api.Errno) {
	d.rows.all = append(emptied(d.rows.all), Row{})
	for i, source := range s.Sources {
		if errno := d.beside(i, source); errno != api.OK {
			return nil, errno
		}
	}
	if errno := d.where(s.Where); errno != api.OK {
		return nil, errno
	}
	if len(d.rows.all) > api.MaxRows {
		return nil, api.ErrMany
	}
	return d.items(s.Items)
}

// beside lays each row of a source beside each row so far; those stay for which
// the source's condition is true.
func (d *desk) beside(i int, source Source) api.Errno {
	rows, more := d.rows.all, len(source.Table.Rows)
	made := len(rows) * more
	if made > api.MaxMade {
		return api.ErrMany
	}
	_, errno := d.rows.fill(made, func(kept []Row, number int) ([]Row, api.Errno) {
		kept = append(kept, rows[number/more])
		kept[len(kept)-1][i] = int32(number % more)
		return lastIf(kept, source.On)
	})
	return errno
}

// where leaves the rows for which a condition is true; without one, all.
func (d *desk) where(condition Expr) api.Errno {
	if condition == nil {
		return api.OK
	}
	rows := d.rows.all
	_, errno := d.rows.fill(len(rows), func(kept []Row, number int) ([]Row, api.Errno) {
		return lastIf(append(kept, rows[number]), condition)
	})
	return errno
}

// lastIf takes the last row away again, unless a condition is true for it: so
// the row is worked out where it lies, and is copied but once.
func lastIf(rows []Row, condition Expr) ([]Row, api.Errno) {
	if condition == nil {
		return rows, api.OK
	}
	last := len(rows) - 1
	value, errno := condition.Of(&rows[last])
	if !values.IsTrue(value) {
		rows = rows[:last]
	}
	return rows, errno
}

func (d *desk) items(items []Expr) ([][]api.Value, api.Errno) {
	rows := d.rows.all
	return d.made.fill(len(rows), func(made [][]api.Value, number int) ([][]api.Value, api.Errno) {
		return layBehind(made, items, &rows[number])
	})
}

// Rows works out rows of exprs that name no column.
func Rows(exprs [][]Expr) ([][]api.Value, api.Errno) {
	var made buffer[[]api.Value]
	return made.fill(len(exprs), func(made [][]api.Value, number int) ([][]api.Value, api.Errno) {
		return layBehind(made, exprs[number], &Row{})
	})
}

// layBehind lays a row of exprs behind the rows that are made, in memory of its
// own: it may be handed out.
func layBehind(made [][]api.Value, exprs []Expr, row *Row) ([][]api.Value, api.Errno) {
	next := make([]api.Value, len(exprs))
	for i, expr := range exprs {
		value, errno := expr.Of(row)
		if errno != api.OK {
			return nil, errno
		}
		next[i] = value
	}
	return append(made, next), api.OK
}
