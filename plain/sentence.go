// Package plain writes a sentence in its plain text.
package plain

import (
	"lineage/api"
	"lineage/tree"
	"lineage/words"
)

// Text writes a sentence.
func Text(sentence tree.Sentence) string {
	w := &writer{glued: true}
	switch s := sentence.(type) {
	case tree.Create:
		w.create(s)
	case tree.Insert:
		w.insert(s)
	case tree.Query:
		w.query(s)
	}
	return w.plain.String()
}

func (w *writer) create(create tree.Create) {
	w.put(words.Create, words.Table)
	w.word(create.Table)
	w.glue()
	w.put(words.Open)
	list(w, create.Columns, w.column)
	w.put(words.Close)
}

func (w *writer) column(column tree.Column) {
	w.word(column.Name)
	switch column.Kind {
	case api.Int:
		w.put(words.Int)
	case api.Text:
		w.put(words.Text)
	case api.Bool:
		w.put(words.Bool)
	}
}

func (w *writer) insert(insert tree.Insert) {
	w.put(words.Insert, words.Into)
	w.word(insert.Table)
	w.put(words.Values)
	list(w, insert.Rows, w.row)
}

func (w *writer) row(row []tree.Expr) {
	w.put(words.Open)
	list(w, row, w.expr)
	w.put(words.Close)
}

func (w *writer) query(query tree.Query) {
	if len(query.Parts) > 0 {
		w.put(words.With)
	}
	if query.Recursive {
		w.put(words.Recursive)
	}
	list(w, query.Parts, w.part)
	w.body(query.Body)
}

func (w *writer) part(part tree.Part) {
	w.word(part.Name)
	w.glue()
	w.put(words.Open)
	list(w, part.Columns, w.word)
	w.put(words.Close, words.As, words.Open)
	w.body(part.Body)
	w.put(words.Close)
}

func (w *writer) body(body tree.Body) {
	w.selection(body.First)
	for _, union := range body.Unions {
		w.put(words.Union)
		if union.All {
			w.put(words.All)
		}
		w.selection(union.Select)
	}
}

func (w *writer) selection(s tree.Select) {
	w.put(words.Select)
	if len(s.Items) == 0 {
		w.put(words.Star)
	}
	list(w, s.Items, w.item)
	for i, source := range s.Sources {
		w.source(i == 0, source)
	}
	if s.Where != nil {
		w.put(words.Where)
		w.expr(s.Where)
	}
}

func (w *writer) item(item tree.Item) {
	w.expr(item.Expr)
	w.as(item.As)
}

func (w *writer) source(first bool, source tree.Source) {
	switch {
	case first:
		w.put(words.From)
	case source.On == nil:
		w.put(words.Comma)
	default:
		w.put(words.Join)
	}
	w.word(source.Name)
	w.as(source.As)
	if source.On != nil {
		w.put(words.On)
		w.expr(source.On)
	}
}

func (w *writer) as(name string) {
	if name != "" {
		w.put(words.As)
		w.word(name)
	}
}
