package check

import (
	"cmp"
	"slices"

	"lineage/api"
	"lineage/tree"
	"lineage/work"
)

// source is a source by the name that it has in its select.
type source struct {
	name  string
	table *work.Table
}

// body answers the columns of its first select, too, which are its own.
func (c *checker) body(body tree.Body) (work.Body, []tree.Column) {
	first, columns := c.selection(body.First)
	return work.Body{First: first, Unions: c.unions(body.Unions, columns)}, columns
}

// unions checks what is united with a first select of these columns.
func (c *checker) unions(unions []tree.Union, columns []tree.Column) []work.Union {
	var checked []work.Union
	for _, union := range unions {
		selection, others := c.selection(union.Select)
		c.must(len(others) == len(columns), api.ErrShape)
		c.must(slices.EqualFunc(columns, others, sameKind), api.ErrType)
		checked = append(checked, work.Union{All: union.All, Select: selection})
	}
	return checked
}

func sameKind(a, b tree.Column) bool {
	return a.Kind == b.Kind
}

func (c *checker) selection(selection tree.Select) (work.Select, []tree.Column) {
	c.must(len(selection.Sources) <= api.MaxSources, api.ErrShape)
	c.must(len(selection.Items) <= api.MaxCols, api.ErrShape)
	var checked work.Select
	var sources []source
	for _, next := range selection.Sources {
		table := c.table(next.Name)
		name := cmp.Or(next.As, next.Name)
		c.must(!isNamed(sources, name), api.ErrTwice)
		sources = append(sources, source{name, table})
		on := c.condition(next.On, sources)
		checked.Sources = append(checked.Sources, work.Source{Table: table, On: on})
	}
	checked.Where = c.condition(selection.Where, sources)
	var columns []tree.Column
	if len(selection.Items) == 0 {
		c.must(len(sources) > 0, api.ErrShape)
		checked.Items, columns = allColumns(sources)
	} else {
		checked.Items, columns = c.items(selection.Items, sources)
	}
	return checked, columns
}

func isNamed(sources []source, name string) bool {
	return slices.ContainsFunc(sources, func(ahead source) bool {
		return ahead.name == name
	})
}

// condition is what stands behind ON or WHERE; nil, if nothing does.
func (c *checker) condition(expr tree.Expr, sources []source) work.Expr {
	if expr == nil {
		return nil
	}
	checked, kind := c.expr(expr, sources)
	c.must(fits(kind, api.Bool), api.ErrType)
	return checked
}

func allColumns(sources []source) ([]work.Expr, []tree.Column) {
	var exprs []work.Expr
	var columns []tree.Column
	for i, source := range sources {
		for k, column := range source.table.Columns {
			exprs = append(exprs, &work.Column{Table: source.table, Source: i, Column: k})
			columns = append(columns, column)
		}
	}
	return exprs, columns
}

func (c *checker) items(items []tree.Item, sources []source) ([]work.Expr, []tree.Column) {
	var exprs []work.Expr
	var columns []tree.Column
	for _, item := range items {
		expr, kind := c.expr(item.Expr, sources)
		if kind == api.Null {
			kind = api.Int
		}
		exprs = append(exprs, expr)
		columns = append(columns, tree.Column{Name: nameOf(item), Kind: kind})
	}
	return exprs, columns
}

func nameOf(item tree.Item) string {
	if reference, alone := item.Expr.(tree.Reference); alone {
		return cmp.Or(item.As, reference.Column)
	}
	return item.As
}
