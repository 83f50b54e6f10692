package lineage

import (
	"fmt"
	"slices"
	"strings"
	"testing"

	"lineage/api"
	"lineage/tree"
)

// A text and its Print have one answer, wherever they are run.
func TestP10TextAndPrint(t *testing.T) {
	answered := 0
	for seed := range 8 {
		q := newQueryMaker(int64(300 + seed))
		laid := q.fewRows()
		texts, prints := ran(laid...), ran(laid...)
		for range 300 {
			text := q.anyText()
			plain, errno, _ := Print(text)
			if errno != api.OK || len(plain) > api.MaxText {
				continue
			}
			wantPlain(t, plain, plain)
			q.model.run(text)
			want := shownRun(texts, text)
			wantAnswer(t, prints, plain, want)
			if plain != text && !strings.HasPrefix(want, "error") {
				answered++
			}
		}
	}
	if answered < 500 {
		t.Errorf("only %d texts were answered", answered)
	}
}

func TestP10TextAndPrintByHand(t *testing.T) {
	db := opened(t)
	for _, text := range []string{
		"with recursive R (N) as(select((1))union all select(N)+1 from r where((n<5)))select*from R;",
		"with e(Z)as(select a*(b+a)from E),p(x)as(select((z))from e)select X,-(x)from P where(x)>(1)",
		"select 10-(3-2),10-3-2,(1+2)*3,-(-1),not(true and false)",
		"select 1 from e,e",
		"with recursive p(x)as(select(x)from p)select 1",
		"with recursive p(x)as(select(1)union all select(x)from p)select 1",
	} {
		plain, errno, _ := Print(text)
		if errno != api.OK || plain == text {
			t.Errorf("Print(%q) = %q, %d", text, plain, errno)
		}
		wantAnswer(t, db, plain, shownRun(db, text))
	}
}

// seeded is a query for a part that begins with the rows of %, which has the
// columns of t; round tells in which round a row came.
func (q *queryMaker) seeded(union string) string {
	round := tree.Column{Name: "round", Kind: api.Int}
	q.model["r"] = &modelTable{columns: append([]tree.Column{round}, q.model["t"].columns...)}
	from, columns := q.from(1+q.Intn(2), &tree.Source{Name: "r", As: "me"})
	items := q.items([]int{api.Int, api.Text, api.Bool}, columns)
	condition := q.one("", " AND "+q.expr(api.Bool, 2, columns))
	delete(q.model, "r")
	return "WITH RECURSIVE both(n, s, f) AS (SELECT n, s, f FROM t UNION ALL SELECT a, s, a > 1 FROM u), one(n, s, f) AS (SELECT n, s, f FROM t), other(n, s, f) AS (SELECT a, s, a > 1 FROM u), " +
		"r(round, n, s, f) AS (SELECT 0, n, s, f FROM % " + union + " SELECT round + 1, " + items + from + " WHERE round < 3" + condition + ") SELECT * FROM r"
}

// rowsOf are the rows of an answer, each written as a text.
func rowsOf(shown string) []string {
	rows := strings.Split(shown, "|")[1:]
	slices.Sort(rows)
	return rows
}

// together asks whether a part that begins with two bags of rows comes to what
// comes of the one and of the other one; once leaves out of these rows what is
// not to be there twice.
func together(t *testing.T, seed int64, union string, once func([]string) []string) (compared, rows int) {
	q := newQueryMaker(seed)
	db := ran(q.fewRows()...)
	for range 40 {
		text := q.seeded(union)
		var shown [3]string
		for i, first := range []string{"one", "other", "both"} {
			shown[i] = shownRun(db, strings.ReplaceAll(text, "%", first))
		}
		if strings.Contains(strings.Join(shown[:], "|"), "error") {
			continue
		}
		want := once(rowsOf(shown[0] + strings.TrimPrefix(shown[1], "round:1,n:1,s:2,f:3")))
		if got := rowsOf(shown[2]); !slices.Equal(got, want) {
			t.Errorf("P10: %q: of both %.300q, one by one %.300q", text, got, want)
		}
		compared++
		rows += len(want)
	}
	return compared, rows
}

func wantTogether(t *testing.T, union string, once func([]string) []string) {
	t.Helper()
	compared, rows := 0, 0
	for seed := range 30 {
		texts, more := together(t, int64(400+seed), union, once)
		compared += texts
		rows += more
	}
	if compared < 200 || rows < 2000 {
		t.Errorf("only %d answers with %d rows were compared", compared, rows)
	}
}

// The answer for two bags of new rows together is that for the one and that for
// the other one together, round by round.
func TestP10BagsTogether(t *testing.T) {
	wantTogether(t, "UNION ALL", func(rows []string) []string { return rows })
}

func TestP10NoRowTwice(t *testing.T) {
	wantTogether(t, "UNION", slices.Compact[[]string])
}

// written is a value as a text may have it.
func written(value api.Value) string {
	if value.Kind == api.Int && value.Int < 0 {
		return fmt.Sprintf("%d - 1", value.Int+1)
	}
	if value.Kind == api.Text {
		return "'" + strings.ReplaceAll(value.Text, "'", "''") + "'"
	}
	return shown(value)
}

// shuffled makes texts for the tables of the model, whose rows are laid by one
// by one in another order.
func (q *queryMaker) shuffled() []string {
	texts := newQueryMaker(0).fewRows()[:5]
	for _, name := range []string{"w", "t", "e", "v", "u"} {
		rows := q.model[name].rows
		for _, i := range q.Perm(len(rows)) {
			var row []string
			for _, value := range rows[i] {
				row = append(row, written(value))
			}
			texts = append(texts, "INSERT INTO "+name+" VALUES ("+strings.Join(row, ", ")+")")
		}
	}
	return texts
}

// Which rows are in a table does not hang on the order in which they were laid
// by; nor does any answer, or the error.
func TestP10OrderOfLaying(t *testing.T) {
	answers, errors := 0, 0
	for seed := range 12 {
		q := newQueryMaker(int64(600 + seed))
		one, other := ran(q.fewRows()...), ran(q.shuffled()...)
		for _, table := range []string{"e", "t", "u", "v", "w"} {
			wantAnswer(t, other, "SELECT * FROM "+table, shownRun(one, "SELECT * FROM "+table))
		}
		for range 150 {
			text := q.withParts()
			want := shownRun(one, text)
			wantAnswer(t, other, text, want)
			if strings.HasPrefix(want, "error") {
				errors++
			} else {
				answers++
			}
		}
	}
	if answers < 300 || errors < 300 {
		t.Errorf("only %d answers and %d errors", answers, errors)
	}
}
