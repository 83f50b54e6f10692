package reading

import (
	"lineage/api"
	"lineage/tree"
	"lineage/words"
)

func (r *reader) sentence() tree.Sentence {
	switch {
	case r.skip(words.Create):
		return r.create()
	case r.skip(words.Insert):
		return r.insert()
	}
	return r.query()
}

func (r *reader) create() tree.Create {
	r.must(words.Table)
	create := tree.Create{Table: r.name()}
	r.must(words.Open)
	create.Columns = list(r, r.column)
	r.must(words.Close)
	return create
}

func (r *reader) column() tree.Column {
	return tree.Column{Name: r.name(), Kind: r.kind()}
}

func (r *reader) kind() int {
	word, taken := r.take(words.Int, words.Text, words.Bool)
	if !taken {
		r.fail(api.ErrText)
	}
	switch word.Kind {
	case words.Int:
		return api.Int
	case words.Text:
		return api.Text
	case words.Bool:
		return api.Bool
	}
	return api.Null
}

func (r *reader) insert() tree.Insert {
	r.must(words.Into)
	insert := tree.Insert{Table: r.name()}
	r.must(words.Values)
	insert.Rows = list(r, r.row)
	return insert
}

func (r *reader) row() []tree.Expr {
	r.must(words.Open)
	row := list(r, r.expr)
	r.must(words.Close)
	return row
}

func (r *reader) query() tree.Query {
	var query tree.Query
	if r.skip(words.With) {
		query.Recursive = r.skip(words.Recursive)
		query.Parts = list(r, r.part)
	}
	query.Body = r.body()
	return query
}

func (r *reader) part() tree.Part {
	part := tree.Part{Name: r.name()}
	r.must(words.Open)
	part.Columns = list(r, r.name)
	r.must(words.Close, words.As, words.Open)
	part.Body = r.body()
	r.must(words.Close)
	return part
}

func (r *reader) body() tree.Body {
	body := tree.Body{First: r.selection()}
	for r.skip(words.Union) {
		all := r.skip(words.All)
		body.Unions = append(body.Unions, tree.Union{All: all, Select: r.selection()})
	}
	return body
}

func (r *reader) selection() tree.Select {
	var s tree.Select
	r.must(words.Select)
	if !r.skip(words.Star) {
		s.Items = list(r, r.item)
	}
	if r.skip(words.From) {
		s.Sources = r.sources()
	}
	if r.skip(words.Where) {
		s.Where = r.expr()
	}
	return s
}

func (r *reader) item() tree.Item {
	return tree.Item{Expr: r.expr(), As: r.as()}
}

func (r *reader) sources() []tree.Source {
	sources := []tree.Source{r.source()}
	for {
		ahead, taken := r.take(words.Comma, words.Join)
		if !taken {
			return sources
		}
		source := r.source()
		if ahead.Kind == words.Join {
			r.must(words.On)
			source.On = r.expr()
		}
		sources = append(sources, source)
	}
}

func (r *reader) source() tree.Source {
	return tree.Source{Name: r.name(), As: r.as()}
}

func (r *reader) as() string {
	if !r.skip(words.As) {
		return ""
	}
	return r.name()
}

func (r *reader) name() string {
	return r.must(words.Name).Text
}
