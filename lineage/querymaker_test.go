package lineage

import (
	"maps"
	"slices"
	"strings"

	"lineage/api"
	"lineage/tree"
)

// queryMaker makes texts that are mostly right ones for the tables of the model.
type queryMaker struct {
	*maker
	model model
	parts []string // the names of the parts so far, in a text with parts
	own   string   // the name of the part that is being made
}

func newQueryMaker(seed int64) *queryMaker {
	return &queryMaker{maker: newMaker(seed), model: model{}}
}

func (q *queryMaker) one(choices ...string) string {
	return choices[q.Intn(len(choices))]
}

func (q *queryMaker) sentence() string {
	switch q.Intn(12) {
	case 0:
		columns := q.one("a INT, b INT", "n INT, s TEXT, f BOOL", "a INT, s TEXT", "f BOOL, a INT, b BOOL", "a INT, a INT", columnList(q.Intn(20)+1))
		return "CREATE TABLE " + q.one("e", "t", "u", "v", "w") + "(" + columns + ")"
	case 1, 2, 3:
		return q.insert()
	}
	return q.query()
}

func (q *queryMaker) insert() string {
	name := q.one("e", "t", "u", "v", "w")
	var rows []string
	for range 1 + q.Intn(4) {
		var row []string
		if table := q.model[name]; table != nil {
			for _, column := range table.columns {
				row = append(row, q.expr(column.Kind, 2, nil))
			}
		}
		if len(row) == 0 || q.Intn(60) == 0 {
			row = append(row, q.expr(api.Int, 1, nil))
		}
		rows = append(rows, "("+strings.Join(row, ", ")+")")
	}
	return "INSERT INTO " + name + " VALUES " + strings.Join(rows, ", ")
}

func (q *queryMaker) kinds() []int {
	return []int{api.Int, 1 + q.Intn(3), 1 + q.Intn(3)}[:1+q.Intn(3)]
}

func (q *queryMaker) query() string {
	return q.body(q.kinds())
}

func (q *queryMaker) body(kinds []int) string {
	text := q.selection(kinds)
	for q.Intn(3) == 0 {
		if q.Intn(30) == 0 {
			kinds = append(kinds, api.Int)
		}
		text += q.one(" UNION ", " UNION ALL ") + q.selection(kinds)
	}
	return text
}

func (q *queryMaker) selection(kinds []int) string {
	from, columns := q.from(q.Intn(4), nil)
	if q.Intn(2) == 0 {
		from += " WHERE " + q.expr(api.Bool, 3, columns)
	}
	if q.Intn(15) == 0 {
		return "SELECT *" + from
	}
	return "SELECT " + q.items(kinds, columns) + from
}

func (q *queryMaker) items(kinds []int, columns []named) string {
	var items []string
	for _, kind := range kinds {
		items = append(items, q.expr(kind, 2, columns)+q.one("", "", " AS x", " AS y"))
	}
	return strings.Join(items, ", ")
}

// from makes so many sources; one of them is must, if there is such.
func (q *queryMaker) from(sources int, must *tree.Source) (string, []named) {
	var columns []named
	from := ""
	at := q.Intn(max(sources, 1))
	for i := range sources {
		source := q.source(i)
		if i == at && must != nil {
			source = *must
		}
		ahead := q.one(", ", " JOIN ")
		if i == 0 {
			ahead = " FROM "
		}
		from += ahead + source.Name
		if source.As != "" {
			from += " AS " + source.As
		}
		if table := q.model[source.Name]; table != nil {
			for _, column := range table.columns {
				columns = append(columns, named{source: nameIn(source), column: column})
			}
		}
		if ahead == " JOIN " {
			from += " ON " + q.expr(api.Bool, 2, columns)
		}
	}
	return from, columns
}

func (q *queryMaker) source(i int) tree.Source {
	source := tree.Source{Name: q.one("e", "t", "u", "v", "e", "t", "u", "w")}
	if len(q.parts) > 0 && q.Intn(2) == 0 {
		source.Name = q.one(q.parts...)
	}
	if source.Name == q.own && q.Intn(12) > 0 {
		source.Name = "u"
	}
	switch q.Intn(12) {
	case 0:
	case 1:
		source.As = q.one("p", "q", "r", "x", "e", "t")
	default:
		source.As = []string{"p", "q", "r", "x"}[i]
	}
	return source
}

// anyText makes a text of any kind, with parts as often as without.
func (q *queryMaker) anyText() string {
	if q.Intn(2) == 0 {
		return q.withParts()
	}
	return q.sentence()
}

// fewRows makes texts for a few tables with a few rows, which the model has then.
func (q *queryMaker) fewRows() []string {
	texts := []string{"CREATE TABLE e(a INT, b INT)", "CREATE TABLE t(n INT, s TEXT, f BOOL)", "CREATE TABLE u(a INT, s TEXT)", "CREATE TABLE v(f BOOL, a INT, b BOOL)", "CREATE TABLE w(a INT)"}
	for i := 0; i < 17; i++ {
		if i == len(texts) {
			texts = append(texts, q.insert())
		}
		q.model.run(texts[i])
	}
	return texts
}

// withParts makes a query with parts. Where one is made, those so far are
// tables of the model.
func (q *queryMaker) withParts() string {
	tables := q.model
	defer func() { q.model, q.parts, q.own = tables, nil, "" }()
	q.model = maps.Clone(tables)
	recursive := q.one("", "RECURSIVE ", "RECURSIVE ", "RECURSIVE ")
	var parts []string
	for range 1 + q.Intn(3) {
		parts = append(parts, q.part(recursive != ""))
	}
	return "WITH " + recursive + strings.Join(parts, ", ") + " " + q.query()
}

func (q *queryMaker) part(recursive bool) string {
	name := q.one("g", "h", "i", "j", "k", "e", "t", "w")
	if slices.Contains(q.parts, name) && q.Intn(5) > 0 {
		name = q.one("l", "m", "o", "u", "v")
	}
	q.own = name
	kinds := q.kinds()
	table := &modelTable{}
	var names []string
	for i, kind := range kinds {
		column := tree.Column{Name: []string{q.one("a", "n"), q.one("b", "s"), q.one("f", "c", "f", "c", "b")}[i], Kind: kind}
		table.columns = append(table.columns, column)
		names = append(names, column.Name)
	}
	if q.Intn(40) == 0 {
		names = append(names, "more")
	}
	if q.Intn(30) == 0 {
		q.parts = append(q.parts, name) // it may be spoken of in a wrong place
	}
	text := name + "(" + strings.Join(names, ", ") + ") AS ("
	if !recursive || q.Intn(4) == 0 {
		text += q.body(kinds)
		q.model[name] = table
	} else {
		text += q.selection(kinds)
		q.model[name] = table
		text += q.one(" UNION ", " UNION ALL ") + q.again(name, kinds)
	}
	q.parts, q.own = append(q.parts, name), ""
	return text + ")"
}

// again makes the second select of a part that speaks of itself. Mostly it
// comes to an end, by the first column.
func (q *queryMaker) again(name string, kinds []int) string {
	from, columns := q.from(1+q.Intn(3), &tree.Source{Name: name, As: "me"})
	first := "me." + q.model[name].columns[0].Name
	item := q.one(first+" + 1", first+" + 1", first+" + 2", first+" % 5 + 1", q.expr(api.Int, 2, columns))
	items := []string{item}
	if len(kinds) > 1 {
		items = append(items, q.items(kinds[1:], columns))
	}
	some := q.expr(api.Bool, 2, columns)
	from += " WHERE " + q.one(some, first+" < 4", first+" < 4", first+" < 9 AND "+some)
	return "SELECT " + strings.Join(items, ", ") + from
}

// expr makes an expr of a kind, now and then one of another kind.
func (q *queryMaker) expr(kind, deep int, columns []named) string {
	if q.Intn(300) == 0 {
		kind = 1 + q.Intn(3)
	}
	switch choice := q.Intn(40); {
	case choice == 0:
		return "NULL"
	case choice == 1 && q.Intn(6) == 0:
		return q.one("a", "b", "n", "s", "f", "e.a", "t.n", "p.a", "q.b", "x.s", "nobody")
	case choice < 20:
		if name := q.column(kind, columns); name != "" {
			return name
		}
	}
	if deep == 0 {
		return q.literal(kind)
	}
	operand := func(kind int) string { return q.expr(kind, deep-1, columns) }
	switch kind {
	case api.Int:
		if q.Intn(6) == 0 {
			return "-" + q.literal(kind)
		}
		return q.one("(", "-(") + operand(kind) + q.one(" + ", " - ", " * ", " / ", " % ") + operand(kind) + ")"
	case api.Text:
		return "(" + operand(kind) + " || " + operand(kind) + ")"
	}
	switch q.Intn(6) {
	case 0:
		return "(" + operand(1+q.Intn(3)) + q.one(" IS NULL)", " IS NOT NULL)")
	case 1:
		return "(NOT " + operand(kind) + ")"
	case 2:
		return "(" + operand(kind) + q.one(" AND ", " OR ") + operand(kind) + ")"
	}
	kind = 1 + q.Intn(3)
	return "(" + operand(kind) + q.one(" = ", " <> ", " < ", " <= ", " > ", " >= ") + operand(kind) + ")"
}

func (q *queryMaker) column(kind int, columns []named) string {
	var names []string
	for _, column := range columns {
		if column.column.Kind == kind {
			names = append(names, column.source+"."+column.column.Name)
			if q.Intn(10) == 0 && (isAlone(column.column.Name, columns) || q.Intn(10) == 0) {
				names = append(names, column.column.Name)
			}
		}
	}
	if len(names) == 0 {
		return ""
	}
	return q.one(names...)
}

func isAlone(name string, columns []named) bool {
	n := 0
	for _, column := range columns {
		if column.column.Name == name {
			n++
		}
	}
	return n == 1
}

func (q *queryMaker) literal(kind int) string {
	switch kind {
	case api.Int:
		return q.one("0", "1", "1", "2", "2", "3", "7", "9223372036854775807", "3037000500")
	case api.Text:
		return q.one("''", "'a'", "'b'", "'B'", "'it''s'", "'\xff'", "'c'", "'"+times(125, "x")+"'", "'"+times(126, "y")+"'")
	}
	return q.one("TRUE", "FALSE")
}
