package lineage

import (
	"fmt"
	"maps"
	"math/big"
	"slices"
	"strings"
	"testing"

	"lineage/api"
	"lineage/reading"
	"lineage/tree"
	"lineage/words"
)

// model does what the document says, step by step and by names alone, without
// any regard to time: what Run answers is held against it.
type model map[string]*modelTable

type modelTable struct {
	columns []tree.Column
	rows    [][]api.Value
}

// fault is panicked where an error is met.
type fault api.Errno

func unless(hold bool, errno api.Errno) {
	if !hold {
		panic(fault(errno))
	}
}

// run writes what comes of a text, as shownRun does.
func (m model) run(text string) (shown string) {
	defer func() {
		if met := recover(); met != nil {
			shown = fmt.Sprintf("error %d", met.(fault))
		}
	}()
	sentence, errno, _ := reading.Read(text)
	unless(errno == api.OK, errno)
	switch s := sentence.(type) {
	case tree.Create:
		return m.create(s)
	case tree.Insert:
		return m.insert(s)
	}
	return shownAnswer(m.query(sentence.(tree.Query)))
}

func (m model) create(create tree.Create) string {
	unless(m[create.Table] == nil, api.ErrTwice)
	names := map[string]int{}
	for _, column := range create.Columns {
		names[column.Name]++
		unless(names[column.Name] == 1, api.ErrTwice)
	}
	unless(len(create.Columns) <= 16, api.ErrShape)
	m[create.Table] = &modelTable{columns: create.Columns}
	return "0"
}

func (m model) insert(insert tree.Insert) string {
	table := m[insert.Table]
	unless(table != nil, api.ErrName)
	for _, row := range insert.Rows {
		unless(len(row) == len(table.columns), api.ErrShape)
		for i, expr := range row {
			kind := kindOf(expr, nil)
			unless(kind == table.columns[i].Kind || kind == api.Null, api.ErrType)
		}
	}
	var rows [][]api.Value
	for _, row := range insert.Rows {
		rows = append(rows, valuesOf(row, nil))
	}
	unless(len(table.rows)+len(rows) <= 1000, api.ErrMany)
	table.rows = append(table.rows, rows...)
	return fmt.Sprint(len(rows))
}

// named is a column of a source: its name, its kind, and in a row its value.
type named struct {
	source string
	column tree.Column
	value  api.Value
}

func find(reference tree.Reference, columns []named) named {
	var found []named
	for _, column := range columns {
		if column.column.Name == reference.Column && (reference.Source == "" || reference.Source == column.source) {
			found = append(found, column)
		}
	}
	unless(len(found) > 0, api.ErrName)
	unless(len(found) == 1, api.ErrTwice)
	return found[0]
}

func kindOf(expr tree.Expr, columns []named) int {
	switch e := expr.(type) {
	case tree.Literal:
		return e.Value.Kind
	case tree.Reference:
		return find(e, columns).column.Kind
	case tree.IsNull:
		kindOf(e.Operand, columns)
		return api.Bool
	case tree.Prefixed:
		wanted := map[words.Kind]int{words.Not: api.Bool, words.Minus: api.Int}[e.Op]
		kind := kindOf(e.Operand, columns)
		unless(kind == wanted || kind == api.Null, api.ErrType)
		return wanted
	}
	binary := expr.(tree.Binary)
	left, right := kindOf(binary.Left, columns), kindOf(binary.Right, columns)
	wanted := map[string]int{"+": api.Int, "-": api.Int, "*": api.Int, "/": api.Int, "%": api.Int, "||": api.Text, "AND": api.Bool, "OR": api.Bool}[binary.Op.Spelling()]
	if wanted == 0 {
		unless(left == right || left == api.Null || right == api.Null, api.ErrType)
		return api.Bool
	}
	unless((left == wanted || left == api.Null) && (right == wanted || right == api.Null), api.ErrType)
	return wanted
}

func valuesOf(exprs []tree.Expr, columns []named) []api.Value {
	var all []api.Value
	for _, expr := range exprs {
		all = append(all, valueOf(expr, columns))
	}
	return all
}

func boolOf(is bool) api.Value { return api.Value{Kind: api.Bool, Bool: is} }

func numberOf(n *big.Int) api.Value {
	unless(n.IsInt64(), api.ErrValue)
	return api.Value{Kind: api.Int, Int: int(n.Int64())}
}

func valueOf(expr tree.Expr, columns []named) api.Value {
	switch e := expr.(type) {
	case tree.Literal:
		return e.Value
	case tree.Reference:
		return find(e, columns).value
	case tree.IsNull:
		return boolOf((valueOf(e.Operand, columns).Kind == api.Null) != e.Not)
	case tree.Prefixed:
		value := valueOf(e.Operand, columns)
		switch {
		case value.Kind == api.Null:
			return value
		case e.Op == words.Not:
			return boolOf(!value.Bool)
		}
		return numberOf(new(big.Int).Neg(big.NewInt(int64(value.Int))))
	}
	binary := expr.(tree.Binary)
	left, right := valueOf(binary.Left, columns), valueOf(binary.Right, columns)
	return operated(binary.Op.Spelling(), left, right)
}

func operated(op string, left, right api.Value) api.Value {
	yes, no := boolOf(true), boolOf(false)
	switch {
	case op == "AND" && (left == no || right == no):
		return no
	case op == "OR" && (left == yes || right == yes):
		return yes
	case left.Kind == api.Null || right.Kind == api.Null:
		return api.Value{}
	case op == "AND":
		return yes
	case op == "OR":
		return no
	case op == "||":
		unless(len(left.Text+right.Text) <= 250, api.ErrValue)
		return api.Value{Kind: api.Text, Text: left.Text + right.Text}
	}
	a, b := big.NewInt(int64(left.Int)), big.NewInt(int64(right.Int))
	unless(op != "/" && op != "%" || b.Sign() != 0, api.ErrValue)
	order := strings.Compare(keyOf(left), keyOf(right))
	switch op {
	case "+":
		return numberOf(a.Add(a, b))
	case "-":
		return numberOf(a.Sub(a, b))
	case "*":
		return numberOf(a.Mul(a, b))
	case "/":
		return numberOf(a.Quo(a, b))
	case "%":
		return numberOf(a.Rem(a, b))
	}
	return boolOf(map[string]bool{"=": order == 0, "<>": order != 0, "<": order < 0, "<=": order <= 0, ">": order > 0, ">=": order >= 0}[op])
}

// keyOf has the order of values as that of texts.
func keyOf(value api.Value) string {
	switch value.Kind {
	case api.Int:
		return fmt.Sprintf("1%020d", uint64(value.Int)^1<<63)
	case api.Text:
		return "2" + value.Text
	case api.Bool:
		return fmt.Sprintf("3%v", value.Bool)
	}
	return "0"
}

func keysOf(row []api.Value) []string {
	var keys []string
	for _, value := range row {
		keys = append(keys, keyOf(value))
	}
	return keys
}

// query has models of its own, in which a part is a table too: one where the
// parts are checked, and one where they are worked out behind that.
func (m model) query(query tree.Query) api.Answer {
	checking, working := maps.Clone(m), maps.Clone(m)
	for i, part := range query.Parts {
		checking.checkPart(part, query.Parts[:i], query.Recursive)
	}
	columns := checking.checkBody(query.Body)
	for _, part := range query.Parts {
		made := checking[part.Name].columns
		working[part.Name] = &modelTable{made, working.partRows(part, query.Recursive, made)}
	}
	rows := working.bodyRows(query.Body)
	slices.SortFunc(rows, func(a, b []api.Value) int { return slices.Compare(keysOf(a), keysOf(b)) })
	var answer api.Answer
	for _, column := range columns {
		answer.Columns = append(answer.Columns, column.Name)
		answer.Kinds = append(answer.Kinds, column.Kind)
	}
	answer.Rows = rows
	return answer
}

func (m model) checkPart(part tree.Part, ahead []tree.Part, recursive bool) {
	for _, other := range ahead {
		unless(other.Name != part.Name, api.ErrTwice)
	}
	names := map[string]int{}
	for _, name := range part.Columns {
		names[name]++
		unless(names[name] == 1, api.ErrTwice)
	}
	unless(len(part.Columns) <= 16, api.ErrShape)
	if !recursive || !slices.ContainsFunc(timesOf(part), func(n int) bool { return n > 0 }) {
		m[part.Name] = partTable(part, m.checkBody(part.Body))
		return
	}
	unless(slices.Equal(timesOf(part), []int{0, 1}), api.ErrLinear)
	m[part.Name] = partTable(part, m.checked(part.Body.First))
	m.checkBody(part.Body)
}

// timesOf tells of each select of a part how often it speaks of the part.
func timesOf(part tree.Part) []int {
	var times []int
	for _, s := range selectsOf(part.Body) {
		n := 0
		for _, source := range s.Sources {
			if source.Name == part.Name {
				n++
			}
		}
		times = append(times, n)
	}
	return times
}

func selectsOf(body tree.Body) []tree.Select {
	selects := []tree.Select{body.First}
	for _, union := range body.Unions {
		selects = append(selects, union.Select)
	}
	return selects
}

func partTable(part tree.Part, columns []tree.Column) *modelTable {
	unless(len(columns) == len(part.Columns), api.ErrShape)
	table := &modelTable{}
	for i, column := range columns {
		table.columns = append(table.columns, tree.Column{Name: part.Columns[i], Kind: column.Kind})
	}
	return table
}

func (m model) checkBody(body tree.Body) []tree.Column {
	columns := m.checked(body.First)
	for _, union := range body.Unions {
		others := m.checked(union.Select)
		unless(len(others) == len(columns), api.ErrShape)
		for i := range others {
			unless(others[i].Kind == columns[i].Kind, api.ErrType)
		}
	}
	return columns
}

func (m model) bodyRows(body tree.Body) [][]api.Value {
	rows := m.rows(body.First)
	for _, union := range body.Unions {
		rows = append(rows, m.rows(union.Select)...)
		if !union.All {
			rows = firsts(rows)
		}
		unless(len(rows) <= 1000, api.ErrMany)
	}
	return rows
}

func (m model) partRows(part tree.Part, recursive bool, columns []tree.Column) [][]api.Value {
	if !recursive || !slices.Equal(timesOf(part), []int{0, 1}) {
		return m.bodyRows(part.Body)
	}
	union := part.Body.Unions[0]
	all := m.rows(part.Body.First)
	if !union.All {
		all = firsts(all)
	}
	fresh := all
	for round := 1; len(fresh) > 0; round++ {
		unless(round <= 200, api.ErrRounds)
		within := maps.Clone(m)
		within[part.Name] = &modelTable{columns, fresh}
		both := slices.Concat(all, within.rows(union.Select))
		if !union.All {
			both = firsts(both)
		}
		unless(len(both) <= 1000, api.ErrMany)
		all, fresh = both, both[len(all):]
	}
	return all
}

func firsts(rows [][]api.Value) [][]api.Value {
	var each [][]api.Value
	seen := map[string]int{}
	for _, row := range rows {
		key := fmt.Sprintf("%q", keysOf(row))
		if seen[key]++; seen[key] == 1 {
			each = append(each, row)
		}
	}
	return each
}

func nameIn(source tree.Source) string {
	if source.As != "" {
		return source.As
	}
	return source.Name
}

// checked answers the columns of a select, if it is a right one.
func (m model) checked(s tree.Select) []tree.Column {
	unless(len(s.Sources) <= 6 && len(s.Items) <= 16, api.ErrShape)
	var all []named
	names := map[string]int{}
	for _, source := range s.Sources {
		table := m[source.Name]
		unless(table != nil, api.ErrName)
		names[nameIn(source)]++
		unless(names[nameIn(source)] == 1, api.ErrTwice)
		for _, column := range table.columns {
			all = append(all, named{source: nameIn(source), column: column})
		}
		if source.On != nil {
			kind := kindOf(source.On, all)
			unless(kind == api.Bool || kind == api.Null, api.ErrType)
		}
	}
	if s.Where != nil {
		kind := kindOf(s.Where, all)
		unless(kind == api.Bool || kind == api.Null, api.ErrType)
	}
	unless(len(s.Items) > 0 || len(s.Sources) > 0, api.ErrShape)
	var columns []tree.Column
	if len(s.Items) == 0 {
		for _, column := range all {
			columns = append(columns, column.column)
		}
	}
	for _, item := range s.Items {
		name := item.As
		if reference, is := item.Expr.(tree.Reference); is && name == "" {
			name = reference.Column
		}
		columns = append(columns, tree.Column{Name: name, Kind: max(kindOf(item.Expr, all), api.Int)})
	}
	return columns
}

func (m model) rows(s tree.Select) [][]api.Value {
	made := [][]named{nil}
	for _, source := range s.Sources {
		unless(len(made)*len(m[source.Name].rows) <= 20000, api.ErrMany)
		var next [][]named
		for _, row := range made {
			for _, more := range m[source.Name].rows {
				beside := slices.Clone(row)
				for i, column := range m[source.Name].columns {
					beside = append(beside, named{nameIn(source), column, more[i]})
				}
				next = append(next, beside)
			}
		}
		made = stay(next, source.On)
	}
	made = stay(made, s.Where)
	unless(len(made) <= 1000, api.ErrMany)
	var rows [][]api.Value
	for _, row := range made {
		var items []api.Value
		for _, column := range row {
			if len(s.Items) == 0 {
				items = append(items, column.value)
			}
		}
		for _, item := range s.Items {
			items = append(items, valueOf(item.Expr, row))
		}
		rows = append(rows, items)
	}
	return rows
}

func stay(rows [][]named, condition tree.Expr) [][]named {
	if condition == nil {
		return rows
	}
	var left [][]named
	for _, row := range rows {
		if valueOf(condition, row) == boolOf(true) {
			left = append(left, row)
		}
	}
	return left
}

// What Run answers is what the document says step by step, whatever the texts
// ahead of it were.
func TestRunAtRandom(t *testing.T) {
	errors := map[string]int{}
	rows := 0
	for seed := range 24 {
		q := newQueryMaker(int64(100 + seed))
		db := New()
		for _, text := range []string{"CREATE TABLE e(a INT, b INT)", "CREATE TABLE t(n INT, s TEXT, f BOOL)"} {
			wantAnswer(t, db, text, q.model.run(text))
		}
		for range 500 {
			text := q.sentence()
			want := q.model.run(text)
			if got := shownRun(db, text); got != want {
				t.Fatalf("seed %d: Run(%q) = %.300s, want %.300s", seed, text, got, want)
			}
			if strings.HasPrefix(want, "error") {
				errors[want]++
			} else {
				rows += strings.Count(want, "|")
			}
		}
	}
	for _, errno := range []api.Errno{api.ErrName, api.ErrTwice, api.ErrType, api.ErrShape, api.ErrValue, api.ErrMany} {
		if met := errors[fmt.Sprintf("error %d", errno)]; met < 30 {
			t.Errorf("only %d texts met the error %d", met, errno)
		}
	}
	if rows < 20000 {
		t.Errorf("only %d rows came", rows)
	}
}

// The same of queries with parts, on tables with few rows: of parts that speak
// of themselves the model makes all rounds.
func TestPartsAtRandom(t *testing.T) {
	met := map[string]int{}
	for seed := range 20 {
		q := newQueryMaker(int64(200 + seed))
		db := ran(q.fewRows()...)
		for range 300 {
			text := q.withParts()
			want := q.model.run(text)
			if got := shownRun(db, text); got != want {
				t.Fatalf("seed %d: Run(%q) = %.300s, want %.300s", seed, text, got, want)
			}
			switch {
			case strings.HasPrefix(want, "error"):
				met[want]++
			case strings.Contains(text, " AS me"):
				met["rounds"]++
			default:
				met["no rounds"]++
			}
			met["rows"] += strings.Count(want, "|")
		}
	}
	for what, least := range map[string]int{"error 3": 100, "error 4": 100, "error 5": 100, "error 6": 100, "error 7": 50, "error 8": 100, "error 9": 10, "error 10": 20, "rounds": 700, "no rounds": 300, "rows": 1500} {
		if met[what] < least {
			t.Errorf("%s: met only %d times", what, met[what])
		}
	}
}
