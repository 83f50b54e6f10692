package lineage

import (
	"fmt"
	"math/big"
	"slices"
	"strings"
	"testing"

	"lineage/api"
	"lineage/reading"
	"lineage/tree"
	"lineage/words"
)

// model does what the document says, step by step and by names alone, without
// any regard to time: what Run answers is held against it. It knows no parts.
type model map[string]*modelTable

type modelTable struct {
	columns []tree.Column
	rows    [][]api.Value
}

// fault is panicked where an error is met.
type fault api.Errno

func unless(hold bool, errno api.Errno) {
	if !hold {
		panic(fault(errno))
	}
}

// run writes what comes of a text, as shownRun does.
func (m model) run(text string) (shown string) {
	defer func() {
		if met := recover(); met != nil {
			shown = fmt.Sprintf("error %d", met.(fault))
		}
	}()
	sentence, errno, _ := reading.Read(text)
	unless(errno == api.OK, errno)
	switch s := sentence.(type) {
	case tree.Create:
		return m.create(s)
	case tree.Insert:
		return m.insert(s)
	}
	return shownAnswer(m.query(sentence.(tree.Query)))
}

func (m model) create(create tree.Create) string {
	unless(m[create.Table] == nil, api.ErrTwice)
	names := map[string]int{}
	for _, column := range create.Columns {
		names[column.Name]++
		unless(names[column.Name] == 1, api.ErrTwice)
	}
	unless(len(create.Columns) <= 16, api.ErrShape)
	m[create.Table] = &modelTable{columns: create.Columns}
	return "0"
}

func (m model) insert(insert tree.Insert) string {
	table := m[insert.Table]
	unless(table != nil, api.ErrName)
	for _, row := range insert.Rows {
		unless(len(row) == len(table.columns), api.ErrShape)
		for i, expr := range row {
			kind := kindOf(expr, nil)
			unless(kind == table.columns[i].Kind || kind == api.Null, api.ErrType)
		}
	}
	var rows [][]api.Value
	for _, row := range insert.Rows {
		rows = append(rows, valuesOf(row, nil))
	}
	unless(len(table.rows)+len(rows) <= 1000, api.ErrMany)
	table.rows = append(table.rows, rows...)
	return fmt.Sprint(len(rows))
}

// named is a column of a source: its name, its kind, and in a row its value.
type named struct {
	source string
	column tree.Column
	value  api.Value
}

func find(reference tree.Reference, columns []named) named {
	var found []named
	for _, column := range columns {
		if column.column.Name == reference.Column && (reference.Source == "" || reference.Source == column.source) {
			found = append(found, column)
		}
	}
	unless(len(found) > 0, api.ErrName)
	unless(len(found) == 1, api.ErrTwice)
	return found[0]
}

func kindOf(expr tree.Expr, columns []named) int {
	switch e := expr.(type) {
	case tree.Literal:
		return e.Value.Kind
	case tree.Reference:
		return find(e, columns).column.Kind
	case tree.IsNull:
		kindOf(e.Operand, columns)
		return api.Bool
	case tree.Prefixed:
		wanted := map[words.Kind]int{words.Not: api.Bool, words.Minus: api.Int}[e.Op]
		kind := kindOf(e.Operand, columns)
		unless(kind == wanted || kind == api.Null, api.ErrType)
		return wanted
	}
	binary := expr.(tree.Binary)
	left, right := kindOf(binary.Left, columns), kindOf(binary.Right, columns)
	wanted := map[string]int{"+": api.Int, "-": api.Int, "*": api.Int, "/": api.Int, "%": api.Int, "||": api.Text, "AND": api.Bool, "OR": api.Bool}[binary.Op.Spelling()]
	if wanted == 0 {
		unless(left == right || left == api.Null || right == api.Null, api.ErrType)
		return api.Bool
	}
	unless((left == wanted || left == api.Null) && (right == wanted || right == api.Null), api.ErrType)
	return wanted
}

func valuesOf(exprs []tree.Expr, columns []named) []api.Value {
	var all []api.Value
	for _, expr := range exprs {
		all = append(all, valueOf(expr, columns))
	}
	return all
}

func boolOf(is bool) api.Value { return api.Value{Kind: api.Bool, Bool: is} }

func numberOf(n *big.Int) api.Value {
	unless(n.IsInt64(), api.ErrValue)
	return api.Value{Kind: api.Int, Int: int(n.Int64())}
}

func valueOf(expr tree.Expr, columns []named) api.Value {
	switch e := expr.(type) {
	case tree.Literal:
		return e.Value
	case tree.Reference:
		return find(e, columns).value
	case tree.IsNull:
		return boolOf((valueOf(e.Operand, columns).Kind == api.Null) != e.Not)
	case tree.Prefixed:
		value := valueOf(e.Operand, columns)
		switch {
		case value.Kind == api.Null:
			return value
		case e.Op == words.Not:
			return boolOf(!value.Bool)
		}
		return numberOf(new(big.Int).Neg(big.NewInt(int64(value.Int))))
	}
	binary := expr.(tree.Binary)
	left, right := valueOf(binary.Left, columns), valueOf(binary.Right, columns)
	return operated(binary.Op.Spelling(), left, right)
}

func operated(op string, left, right api.Value) api.Value {
	yes, no := boolOf(true), boolOf(false)
	switch {
	case op == "AND" && (left == no || right == no):
		return no
	case op == "OR" && (left == yes || right == yes):
		return yes
	case left.Kind == api.Null || right.Kind == api.Null:
		return api.Value{}
	case op == "AND":
		return yes
	case op == "OR":
		return no
	case op == "||":
		unless(len(left.Text+right.Text) <= 250, api.ErrValue)
		return api.Value{Kind: api.Text, Text: left.Text + right.Text}
	}
	a, b := big.NewInt(int64(left.Int)), big.NewInt(int64(right.Int))
	unless(op != "/" && op != "%" || b.Sign() != 0, api.ErrValue)
	order := strings.Compare(keyOf(left), keyOf(right))
	switch op {
	case "+":
		return numberOf(a.Add(a, b))
	case "-":
		return numberOf(a.Sub(a, b))
	case "*":
		return numberOf(a.Mul(a, b))
	case "/":
		return numberOf(a.Quo(a, b))
	case "%":
		return numberOf(a.Rem(a, b))
	}
	return boolOf(map[string]bool{"=": order == 0, "<>": order != 0, "<": order < 0, "<=": order <= 0, ">": order > 0, ">=": order >= 0}[op])
}

// keyOf has the order of values as that of texts.
func keyOf(value api.Value) string {
	switch value.Kind {
	case api.Int:
		return fmt.Sprintf("1%020d", uint64(value.Int)^1<<63)
	case api.Text:
		return "2" + value.Text
	case api.Bool:
		return fmt.Sprintf("3%v", value.Bool)
	}
	return "0"
}

func keysOf(row []api.Value) []string {
	var keys []string
	for _, value := range row {
		keys = append(keys, keyOf(value))
	}
	return keys
}

func (m model) query(query tree.Query) api.Answer {
	columns := m.checked(query.Body.First)
	for _, union := range query.Body.Unions {
		others := m.checked(union.Select)
		unless(len(others) == len(columns), api.ErrShape)
		for i := range others {
			unless(others[i].Kind == columns[i].Kind, api.ErrType)
		}
	}
	rows := m.rows(query.Body.First)
	for _, union := range query.Body.Unions {
		rows = append(rows, m.rows(union.Select)...)
		if !union.All {
			rows = firsts(rows)
		}
		unless(len(rows) <= 1000, api.ErrMany)
	}
	slices.SortFunc(rows, func(a, b []api.Value) int { return slices.Compare(keysOf(a), keysOf(b)) })
	var answer api.Answer
	for _, column := range columns {
		answer.Columns = append(answer.Columns, column.Name)
		answer.Kinds = append(answer.Kinds, column.Kind)
	}
	answer.Rows = rows
	return answer
}

func firsts(rows [][]api.Value) [][]api.Value {
	var each [][]api.Value
	seen := map[string]int{}
	for _, row := range rows {
		key := fmt.Sprintf("%q", keysOf(row))
		if seen[key]++; seen[key] == 1 {
			each = append(each, row)
		}
	}
	return each
}

func nameIn(source tree.Source) string {
	if source.As != "" {
		return source.As
	}
	return source.Name
}

// checked answers the columns of a select, if it is a right one.
func (m model) checked(s tree.Select) []tree.Column {
	unless(len(s.Sources) <= 6 && len(s.Items) <= 16, api.ErrShape)
	var all []named
	names := map[string]int{}
	for _, source := range s.Sources {
		table := m[source.Name]
		unless(table != nil, api.ErrName)
		names[nameIn(source)]++
		unless(names[nameIn(source)] == 1, api.ErrTwice)
		for _, column := range table.columns {
			all = append(all, named{source: nameIn(source), column: column})
		}
		if source.On != nil {
			kind := kindOf(source.On, all)
			unless(kind == api.Bool || kind == api.Null, api.ErrType)
		}
	}
	if s.Where != nil {
		kind := kindOf(s.Where, all)
		unless(kind == api.Bool || kind == api.Null, api.ErrType)
	}
	unless(len(s.Items) > 0 || len(s.Sources) > 0, api.ErrShape)
	var columns []tree.Column
	if len(s.Items) == 0 {
		for _, column := range all {
			columns = append(columns, column.column)
		}
	}
	for _, item := range s.Items {
		name := item.As
		if reference, is := item.Expr.(tree.Reference); is && name == "" {
			name = reference.Column
		}
		columns = append(columns, tree.Column{Name: name, Kind: max(kindOf(item.Expr, all), api.Int)})
	}
	return columns
}

func (m model) rows(s tree.Select) [][]api.Value {
	made := [][]named{nil}
	for _, source := range s.Sources {
		unless(len(made)*len(m[source.Name].rows) <= 20000, api.ErrMany)
		var next [][]named
		for _, row := range made {
			for _, more := range m[source.Name].rows {
				beside := slices.Clone(row)
				for i, column := range m[source.Name].columns {
					beside = append(beside, named{nameIn(source), column, more[i]})
				}
				next = append(next, beside)
			}
		}
		made = stay(next, source.On)
	}
	made = stay(made, s.Where)
	unless(len(made) <= 1000, api.ErrMany)
	var rows [][]api.Value
	for _, row := range made {
		var items []api.Value
		for _, column := range row {
			if len(s.Items) == 0 {
				items = append(items, column.value)
			}
		}
		for _, item := range s.Items {
			items = append(items, valueOf(item.Expr, row))
		}
		rows = append(rows, items)
	}
	return rows
}

func stay(rows [][]named, condition tree.Expr) [][]named {
	if condition == nil {
		return rows
	}
	var left [][]named
	for _, row := range rows {
		if valueOf(condition, row) == boolOf(true) {
			left = append(left, row)
		}
	}
	return left
}

// queryMaker makes texts that are mostly right ones for the tables of the model.
type queryMaker struct {
	*maker
	model model
}

func (q *queryMaker) one(choices ...string) string {
	return choices[q.Intn(len(choices))]
}

func (q *queryMaker) sentence() string {
	switch q.Intn(12) {
	case 0:
		columns := q.one("a INT, b INT", "n INT, s TEXT, f BOOL", "a INT, s TEXT", "f BOOL, a INT, b BOOL", "a INT, a INT", columnList(q.Intn(20)+1))
		return "CREATE TABLE " + q.one("e", "t", "u", "v", "w") + "(" + columns + ")"
	case 1, 2, 3:
		return q.insert()
	}
	return q.query()
}

func (q *queryMaker) insert() string {
	name := q.one("e", "t", "u", "v", "w")
	var rows []string
	for range 1 + q.Intn(4) {
		var row []string
		if table := q.model[name]; table != nil {
			for _, column := range table.columns {
				row = append(row, q.expr(column.Kind, 2, nil))
			}
		}
		if len(row) == 0 || q.Intn(60) == 0 {
			row = append(row, q.expr(api.Int, 1, nil))
		}
		rows = append(rows, "("+strings.Join(row, ", ")+")")
	}
	return "INSERT INTO " + name + " VALUES " + strings.Join(rows, ", ")
}

func (q *queryMaker) query() string {
	kinds := []int{api.Int, 1 + q.Intn(3), 1 + q.Intn(3)}[:1+q.Intn(3)]
	text := q.selection(kinds)
	for q.Intn(3) == 0 {
		if q.Intn(30) == 0 {
			kinds = append(kinds, api.Int)
		}
		text += q.one(" UNION ", " UNION ALL ") + q.selection(kinds)
	}
	return text
}

func (q *queryMaker) selection(kinds []int) string {
	var columns []named
	from := ""
	for i := range q.Intn(4) {
		source := tree.Source{Name: q.one("e", "t", "u", "v", "e", "t", "u", "w")}
		ahead := q.one(", ", " JOIN ")
		if i == 0 {
			ahead = " FROM "
		}
		from += ahead + source.Name
		if q.Intn(6) > 0 {
			source.As = q.one("p", "q", "r", "s", "w", "x", "y", "z", "e", "t")
			from += " AS " + source.As
		}
		if table := q.model[source.Name]; table != nil {
			for _, column := range table.columns {
				columns = append(columns, named{source: nameIn(source), column: column})
			}
		}
		if ahead == " JOIN " {
			from += " ON " + q.expr(api.Bool, 2, columns)
		}
	}
	if q.Intn(2) == 0 {
		from += " WHERE " + q.expr(api.Bool, 3, columns)
	}
	if q.Intn(10) == 0 {
		return "SELECT *" + from
	}
	var items []string
	for _, kind := range kinds {
		items = append(items, q.expr(kind, 2, columns)+q.one("", "", " AS x", " AS y"))
	}
	return "SELECT " + strings.Join(items, ", ") + from
}

// expr makes an expr of a kind, now and then one of another kind.
func (q *queryMaker) expr(kind, deep int, columns []named) string {
	if q.Intn(150) == 0 {
		kind = 1 + q.Intn(3)
	}
	switch choice := q.Intn(40); {
	case choice == 0:
		return "NULL"
	case choice == 1 && q.Intn(4) == 0:
		return q.one("a", "b", "n", "s", "f", "e.a", "t.n", "p.a", "q.b", "x.s", "nobody")
	case choice < 20:
		if name := q.column(kind, columns); name != "" {
			return name
		}
	}
	if deep == 0 {
		return q.literal(kind)
	}
	operand := func(kind int) string { return q.expr(kind, deep-1, columns) }
	switch kind {
	case api.Int:
		if q.Intn(6) == 0 {
			return "-" + q.literal(kind)
		}
		return q.one("(", "-(") + operand(kind) + q.one(" + ", " - ", " * ", " / ", " % ") + operand(kind) + ")"
	case api.Text:
		return "(" + operand(kind) + " || " + operand(kind) + ")"
	}
	switch q.Intn(6) {
	case 0:
		return "(" + operand(1+q.Intn(3)) + q.one(" IS NULL)", " IS NOT NULL)")
	case 1:
		return "(NOT " + operand(kind) + ")"
	case 2:
		return "(" + operand(kind) + q.one(" AND ", " OR ") + operand(kind) + ")"
	}
	kind = 1 + q.Intn(3)
	return "(" + operand(kind) + q.one(" = ", " <> ", " < ", " <= ", " > ", " >= ") + operand(kind) + ")"
}

func (q *queryMaker) column(kind int, columns []named) string {
	var names []string
	for _, column := range columns {
		if column.column.Kind == kind {
			names = append(names, column.source+"."+column.column.Name)
			if q.Intn(10) == 0 {
				names = append(names, column.column.Name)
			}
		}
	}
	if len(names) == 0 {
		return ""
	}
	return q.one(names...)
}

func (q *queryMaker) literal(kind int) string {
	switch kind {
	case api.Int:
		return q.one("0", "1", "1", "2", "2", "3", "7", "9223372036854775807", "3037000500")
	case api.Text:
		return q.one("''", "'a'", "'b'", "'B'", "'it''s'", "'\xff'", "'"+times(125, "x")+"'", "'"+times(126, "y")+"'")
	}
	return q.one("TRUE", "FALSE")
}

// What Run answers is what the document says step by step, whatever the texts
// ahead of it were.
func TestRunAtRandom(t *testing.T) {
	errors := map[string]int{}
	rows := 0
	for seed := range 24 {
		q := &queryMaker{newMaker(int64(100 + seed)), model{}}
		db := New()
		for _, text := range []string{"CREATE TABLE e(a INT, b INT)", "CREATE TABLE t(n INT, s TEXT, f BOOL)"} {
			wantAnswer(t, db, text, q.model.run(text))
		}
		for range 500 {
			text := q.sentence()
			want := q.model.run(text)
			if got := shownRun(db, text); got != want {
				t.Fatalf("seed %d: Run(%q) = %.300s, want %.300s", seed, text, got, want)
			}
			if strings.HasPrefix(want, "error") {
				errors[want]++
			} else {
				rows += strings.Count(want, "|")
			}
		}
	}
	for _, errno := range []api.Errno{api.ErrName, api.ErrTwice, api.ErrType, api.ErrShape, api.ErrValue, api.ErrMany} {
		if met := errors[fmt.Sprintf("error %d", errno)]; met < 30 {
			t.Errorf("only %d texts met the error %d", met, errno)
		}
	}
	if rows < 20000 {
		t.Errorf("only %d rows came", rows)
	}
}
