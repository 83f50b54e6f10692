package check

import (
	"slices"

	"lineage/api"
	"lineage/tree"
	"lineage/work"
)

// part checks a part, which can be spoken of from then on; if it speaks of
// itself, from behind its first select on.
func (c *checker) part(part tree.Part, recursive bool) work.Part {
	c.must(c.parts[part.Name] == nil, api.ErrTwice)
	for i, column := range part.Columns {
		c.must(!slices.Contains(part.Columns[:i], column), api.ErrTwice)
	}
	c.must(len(part.Columns) <= api.MaxCols, api.ErrShape)
	if recursive && speaksOfItself(part) {
		return c.partOfItself(part)
	}
	body, columns := c.body(part.Body)
	return work.Part{Table: c.named(part, columns), Body: body}
}

func (c *checker) partOfItself(part tree.Part) work.Part {
	c.must(isLinear(part), api.ErrLinear)
	first, columns := c.selection(part.Body.First)
	table := c.named(part, columns)
	body := work.Body{First: first, Unions: c.unions(part.Body.Unions, columns)}
	return work.Part{Table: table, OfItself: true, Body: body}
}

// named makes the table that a part's name stands for: the columns of its body,
// by the names that the part has for them.
func (c *checker) named(part tree.Part, columns []tree.Column) *work.Table {
	c.must(len(columns) == len(part.Columns), api.ErrShape)
	table := &work.Table{}
	for i := range min(len(columns), len(part.Columns)) {
		column := tree.Column{Name: part.Columns[i], Kind: columns[i].Kind}
		table.Columns = append(table.Columns, column)
	}
	c.parts[part.Name] = table
	return table
}

func speaksOfItself(part tree.Part) bool {
	often := timesIn(part.Body.First, part.Name)
	for _, union := range part.Body.Unions {
		often += timesIn(union.Select, part.Name)
	}
	return often > 0
}

// isLinear asks for just two selects, of which the second alone speaks of the
// part, and but once.
func isLinear(part tree.Part) bool {
	body := part.Body
	return len(body.Unions) == 1 && timesIn(body.First, part.Name) == 0 &&
		timesIn(body.Unions[0].Select, part.Name) == 1
}

// timesIn tells how often a name stands as a source, whatever is behind AS.
func timesIn(selection tree.Select, name string) int {
	often := 0
	for _, source := range selection.Sources {
		if source.Name == name {
			often++
		}
	}
	return often
}
