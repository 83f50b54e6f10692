package lineage

import (
	"fmt"
	"strings"
	"testing"

	"lineage/api"
)

// around is a query for all rows of a part that speaks of itself.
func around(columns, first, union, second string) string {
	return "WITH RECURSIVE r(" + columns + ") AS (SELECT " + first + " " + union + " SELECT " + second + ") SELECT * FROM r"
}

func wantAround(t *testing.T, db *DB, columns, first, union, second, want string) {
	t.Helper()
	wantAnswer(t, db, around(columns, first, union, second), want)
}

// counted writes the numbers from 1 to n as the rows of an answer.
func counted(n int) string {
	var rows strings.Builder
	for i := range n {
		fmt.Fprintf(&rows, "|%d", i+1)
	}
	return rows.String()
}

func TestP9Examples(t *testing.T) {
	db := opened(t)
	wantAround(t, db, "n", "1", "UNION", "e.b FROM r JOIN e ON r.n = e.a", "n:1|1|2|3")
	wantAround(t, db, "n", "1", "UNION ALL", "e.b FROM r JOIN e ON r.n = e.a", "error 10")
	wantAround(t, db, "n", "1", "UNION ALL", "n + 1 FROM r WHERE n < 5", "n:1|1|2|3|4|5")
}

// The part's name stands for the new rows of the round ahead alone.
func TestP9NewRows(t *testing.T) {
	db := opened(t)
	wantAround(t, db, "n", "a FROM e", "UNION ALL", "n + 1 FROM r WHERE n < 4", "n:1|1|2|2|3|3|3|4|4|4")
	wantAround(t, db, "n", "a FROM e", "UNION", "n + 1 FROM r WHERE n < 4", "n:1|1|2|3|4")
	wantAround(t, db, "k, n", "0, a FROM e WHERE a < 3", "UNION ALL", "k + 1, b FROM r JOIN e ON n = a WHERE k < 3", "k:1,n:1|0,1|0,2|1,2|1,3|2,1|2,3|3,1|3,2")
	wantAround(t, db, "n", "1", "UNION ALL", "r.n * 2 FROM e, r WHERE r.n < 4 AND a < 3", "n:1|1|2|2|4|4|4|4")
	wantAround(t, db, "n", "1", "UNION ALL", "x.a + 1 FROM e AS x, r, e AS y WHERE x.a = n AND y.b = 1", "n:1|1|2|3|4")
	wantAround(t, db, "n, m", "1, 2", "UNION", "m, n FROM r", "n:1,m:1|1,2|2,1")
	wantAround(t, db, "n, m", "1, 10", "UNION ALL", "n + 1, m - 1 FROM r WHERE n < m - 5", "n:1,m:1|1,10|2,9|3,8")
	wantAround(t, db, "n", "2", "UNION ALL", "n - 1 FROM r WHERE 10 / n <> 10", "n:1|1|2")
	wantAround(t, db, "f, a, b", "1, 0, 1", "UNION ALL", "f + 1, b, a + b FROM r WHERE f < 5", "f:1,a:1,b:1|1,0,1|2,1,1|3,1,2|4,2,3|5,3,5")
}

// The two are the same rows in each round, however the select names the part.
func TestP9OtherNames(t *testing.T) {
	db := opened(t)
	for _, second := range []string{"n + 1 FROM r WHERE n < 5", "x.n + 1 FROM r AS x WHERE x.n < 5", "r.n + 1 FROM r, e WHERE n < 5 AND a = 1", "z.n + 1 FROM e JOIN r AS z ON z.n < 5 WHERE a = 3", "n + 1 FROM e AS x JOIN e AS y ON x.a = y.b JOIN r ON n < 5 AND x.a = 2"} {
		wantAround(t, db, "n", "1", "UNION ALL", second, "n:1"+counted(5))
		wantAround(t, db, "n", "1", "UNION", second, "n:1"+counted(5))
	}
}

// Of UNION only rows, each once, that have not come so far.
func TestP9Union(t *testing.T) {
	db := opened(t)
	wantAround(t, db, "n", "1 FROM e", "UNION", "n FROM r", "n:1|1")
	wantAround(t, db, "n", "1 FROM e", "UNION", "n + 1 FROM r, e WHERE n < 3", "n:1|1|2|3")
	wantAround(t, db, "n", "1", "UNION", "n % 3 + 1 FROM r", "n:1|1|2|3")
	wantAround(t, db, "n", "n FROM t", "UNION", "n FROM r", "n:1|null|1|2")
	wantAround(t, db, "n", "NULL", "UNION", "5 FROM r", "n:1|null|5")
	wantAround(t, db, "n", "5", "UNION", "NULL FROM r", "n:1|null|5")
	wantAround(t, db, "s", "'a'", "UNION", "s || 'a' FROM r WHERE s <> 'aaa'", "s:2|'a'|'aa'|'aaa'")
	wantAround(t, db, "s", "''", "UNION", "NULL || s FROM r", "s:2|null|''")
	wantAround(t, db, "f", "NULL IS NULL", "UNION", "NOT f FROM r", "f:3|false|true")
	wantAround(t, db, "f", "FALSE", "UNION", "f AND NULL FROM r", "f:3|false")
	wantAround(t, db, "f", "TRUE", "UNION", "f AND NULL FROM r", "f:3|null|true")
	wantAround(t, db, "n, s, f", "0, '', FALSE", "UNION", "n - n, s || s, f AND f FROM r", "n:1,s:2,f:3|0,'',false")
	wantAround(t, db, "n, s, f", "NULL, NULL || '', NULL = 1", "UNION", "1 - n, s || s, f OR FALSE FROM r", "n:1,s:2,f:3|null,null,null")
	wantAround(t, db, "a, b", "a, b FROM e WHERE a = 1", "UNION", "r.a, e.b FROM r JOIN e ON r.b = e.a", "a:1,b:1|1,1|1,2|1,3")
}

// UNION ALL keeps every row, though it came ahead.
func TestP9UnionAll(t *testing.T) {
	db := opened(t)
	wantAround(t, db, "n", "1 FROM e", "UNION ALL", "2 FROM r WHERE n = 1", "n:1|1|1|1|2|2|2")
	wantAround(t, db, "n, k", "1, 0", "UNION ALL", "1, k + 1 FROM r, e WHERE k < 2 AND a < 3", "n:1,k:1|1,0|1,1|1,1|1,2|1,2|1,2|1,2")
	wantAround(t, db, "n", "3", "UNION ALL", "n - 1 FROM r, e WHERE n > 1 AND a > 1", "n:1|1|1|1|1|2|2|3")
	wantErrno(t, db, api.ErrRounds, around("n", "1", "UNION ALL", "n FROM r"), around("n", "NULL", "UNION ALL", "n FROM r"), around("n", "1", "UNION ALL", "n % 3 + 1 FROM r"))
}

// Rows may differ in their last column alone.
func TestP9MaxCols(t *testing.T) {
	db := opened(t)
	columns, zeros := nameList(api.MaxCols), strings.TrimSuffix(times(15, "0, "), ", ")
	want := strings.ReplaceAll(columns, ", ", ":1,") + ":1"
	for i := range 4 {
		want += "|" + strings.ReplaceAll(zeros, " ", "") + fmt.Sprintf(",%d", i)
	}
	wantAround(t, db, columns, zeros+", 0", "UNION", zeros+", (n15 + 1) % 4 FROM r", want)
	wantAround(t, db, columns, zeros+", 0", "UNION ALL", zeros+", n15 + 1 FROM r WHERE n15 < 3", want)
}

// Without new rows there is no round.
func TestP9NoRounds(t *testing.T) {
	db := opened(t)
	for _, union := range []string{"UNION", "UNION ALL"} {
		wantAround(t, db, "n", "1 WHERE FALSE", union, "n FROM r", "n:1")
		wantAround(t, db, "n", "a FROM e WHERE a > 3", union, "1 / 0 FROM r", "n:1")
		wantAround(t, db, "n", "1 WHERE NULL", union, "n FROM r JOIN e ON 1 / 0 = 1", "n:1")
		wantAround(t, db, "n", "1", union, "1 / 0 FROM r WHERE FALSE", "n:1|1")
		wantAround(t, db, "n", "a FROM e", union, "n FROM r WHERE n > 3", "n:1|1|2|3")
	}
	wantAnswer(t, db, "CREATE TABLE empty(x INT)", "0")
	wantAround(t, db, "n", "x FROM empty", "UNION ALL", "x FROM r, empty", "n:1")
	wantAround(t, db, "n", "1", "UNION ALL", "x FROM r, empty", "n:1|1")
}

func TestP9MaxRounds(t *testing.T) {
	db := opened(t)
	// The round 199 is the last one with new rows, and the round 200 finds none.
	wantAround(t, db, "n", "1", "UNION ALL", "n + 1 FROM r WHERE n < 200", "n:1"+counted(200))
	wantAround(t, db, "n", "1", "UNION", "n + 1 FROM r WHERE n < 200", "n:1"+counted(200))
	wantAround(t, db, "n", "1", "UNION", "n % 200 + 1 FROM r", "n:1"+counted(200))
	wantErrno(t, db, api.ErrRounds, around("n", "1", "UNION ALL", "n + 1 FROM r WHERE n < 201"), around("n", "1", "UNION", "n + 1 FROM r WHERE n < 201"), around("n", "1", "UNION", "n % 201 + 1 FROM r"), around("n", "1", "UNION", "n + 1 FROM r"))
	// The round 201 is not worked out; the round 200 is.
	wantErrno(t, db, api.ErrRounds, around("n", "1", "UNION ALL", "n + 1 + 0 / (201 - n) FROM r"), around("n", "1", "UNION ALL", "n + 1 FROM r JOIN e ON a = 1 AND 1 / (n - 201) < 5"))
	wantErrno(t, db, api.ErrValue, around("n", "1", "UNION ALL", "n + 1 + 0 / (200 - n) FROM r"), around("n", "1", "UNION ALL", "n + 1 FROM r JOIN e ON a = 1 AND 1 / (n - 200) < 5"))
	// Each part has its own rounds.
	text := "WITH RECURSIVE r(n) AS (SELECT 1 UNION ALL SELECT n + 1 FROM r WHERE n < 200), q(m) AS (SELECT 1 UNION ALL SELECT m + 1 FROM q WHERE m < 200) SELECT n FROM r WHERE n > 198 UNION ALL SELECT m FROM q WHERE m > 199"
	wantAnswer(t, db, text, "n:1|199|200|200")
}

func TestP9MaxRows(t *testing.T) {
	db := opened(t)
	filled(t, db, "k", api.MaxRows)
	rows := func(rows int, first, union, second string) {
		t.Helper()
		wantRows(t, db, around("n", first, union, second), rows)
	}
	rows(1000, "n FROM k", "UNION ALL", "n FROM r WHERE n > 1000")
	rows(1001, "n FROM k", "UNION ALL", "n FROM r WHERE n > 999")
	rows(1000, "n FROM k", "UNION", "n FROM r")
	rows(1001, "n FROM k", "UNION", "n + 1 FROM r")
	rows(1000, "n FROM k WHERE n < 501", "UNION ALL", "n + 500 FROM r WHERE n < 501")
	rows(1000, "n FROM k WHERE n < 501", "UNION", "n + 500 FROM r WHERE n < 501")
	rows(1001, "n FROM k WHERE n < 501", "UNION ALL", "n + 500 FROM r WHERE n < 502")
}

// Five rows come in each round.
func TestP9MaxRowsRoundByRound(t *testing.T) {
	db := opened(t)
	filled(t, db, "five", 5)
	wantRows(t, db, around("i, n", "0, n FROM five", "UNION ALL", "i + 1, n FROM r WHERE i < 199"), 1000)
	wantRows(t, db, around("i, n", "0, n FROM five", "UNION", "i + 1, n FROM r WHERE i < 199"), 1000)
	wantRows(t, db, around("i, n", "0, n FROM five", "UNION ALL", "i + 1, n FROM r WHERE i < 199 OR n = 1 AND i = 199"), 1001)
	wantErrno(t, db, api.ErrMany, around("i, n", "0, n FROM five", "UNION ALL", "i + 1, n FROM r"), around("i, n", "0, n FROM five", "UNION", "i + 1, n FROM r"))
}

// What comes altogether is counted ahead of the next round, and behind all that
// is met in its own one.
func TestP9MaxRowsAndOtherErrors(t *testing.T) {
	db := opened(t)
	filled(t, db, "k", api.MaxRows)
	wantErrno(t, db, api.ErrMany, around("n", "n FROM k", "UNION ALL", "n + 1 + 0 / (1001 - n) FROM r WHERE n > 999"), around("n", "n FROM k", "UNION", "n + 1 + 0 / (1001 - n) FROM r WHERE n > 999"))
	wantErrno(t, db, api.ErrValue, around("n", "n FROM k", "UNION ALL", "n + 1 + 0 / (1000 - n) FROM r WHERE n > 999"), around("n", "n FROM k", "UNION", "n + 1 + 0 / (1000 - n) FROM r WHERE n > 999"))
	wantErrno(t, db, api.ErrValue, around("n", "1 / 0", "UNION ALL", "n FROM r"), around("n", "1", "UNION ALL", "n * 2 FROM r"), around("n", "2", "UNION", "6 / (n - 1) FROM r"), around("n", "1", "UNION", "n FROM r WHERE 1 / 0 = n"), around("n", "1", "UNION", "n FROM r JOIN e ON 1 / 0 = n"))
	wantErrno(t, db, api.ErrValue, around("n, s", "1, 'a'", "UNION ALL", "n + 1, s || s FROM r WHERE n < 60"))
	wantAround(t, db, "n, s", "1, 'a'", "UNION ALL", "n + 1, s || s FROM r WHERE n < 4", "n:1,s:2|1,'a'|2,'aa'|3,'aaaa'|4,'aaaaaaaa'")
}

// MaxRows holds for what a select leaves, though UNION would keep but one row of it.
func TestP9MaxRowsOfSelects(t *testing.T) {
	db := opened(t)
	filled(t, db, "k", api.MaxRows)
	filled(t, db, "v", 2)
	more := "k, v WHERE v.n = 1 OR v.n = 2 AND k.n = 1"
	for _, union := range []string{"UNION", "UNION ALL"} {
		wantErrno(t, db, api.ErrMany, around("n", "1 FROM "+more, union, "n FROM r"), around("n", "1", union, "1 FROM r, "+more), around("n", "1 FROM "+more, union, "1 / 0 FROM r"))
	}
	wantAround(t, db, "n", "1 FROM k", "UNION", "1 FROM r, k", "n:1|1")
}

// It is the new rows that stand beside those of the other sources.
func TestP9MaxMade(t *testing.T) {
	db := opened(t)
	filled(t, db, "k", api.MaxRows)
	filled(t, db, "v", 20)
	filled(t, db, "w", 21)
	for _, union := range []string{"UNION", "UNION ALL"} {
		wantAround(t, db, "n", "n FROM v", union, "r.n + 20 FROM r, k WHERE k.n = 1 AND r.n < 21", "n:1"+counted(40))
		wantAround(t, db, "n", "n FROM v", union, "r.n + 20 FROM k, r WHERE k.n = r.n AND r.n < 21", "n:1"+counted(40))
		wantErrno(t, db, api.ErrMany, around("n", "n FROM w", union, "r.n FROM r, k WHERE FALSE"), around("n", "n FROM w", union, "r.n FROM k JOIN r ON 1 / 0 = 1"), around("n", "1", union, "k.n FROM r, k WHERE k.n < 23"))
		wantAround(t, db, "n", "n FROM w WHERE n < 21", union, "k.n FROM r JOIN k ON r.n = 20 AND k.n = 21", "n:1"+counted(21))
		wantErrno(t, db, api.ErrValue, around("n", "n FROM w", union, "r.n FROM r JOIN e ON 1 / 0 = 1, k"))
	}
}

// In the end all that has come is the part.
func TestP9ThePartInTheEnd(t *testing.T) {
	db := opened(t)
	three := "WITH RECURSIVE r(n) AS (SELECT 1 UNION ALL SELECT n + 1 FROM r WHERE n < 3)"
	for text, want := range map[string]string{
		three + " SELECT x.n, y.n FROM r AS x JOIN r AS y ON x.n = y.n":                                       "n:1,n:1|1,1|2,2|3,3",
		three + " SELECT n FROM r UNION ALL SELECT n FROM r":                                                  "n:1|1|1|2|2|3|3",
		three + " SELECT 5 WHERE TRUE":                                                                        ":1|5",
		three + ", q(m) AS (SELECT n * 10 FROM r) SELECT n, m FROM r, q WHERE n = 3":                          "n:1,m:1|3,10|3,20|3,30",
		three + ", q(m) AS (SELECT 10 UNION ALL SELECT m + n FROM q, r WHERE m < 12) SELECT m FROM q":         "m:1|10|11|12|12|13|13|14",
		three + ", q(m) AS (SELECT n FROM r UNION SELECT m + 1 FROM q WHERE m < 5) SELECT m FROM q WHERE m>1": "m:1|2|3|4|5",
	} {
		wantAnswer(t, db, text, want)
	}
	wantAnswer(t, db, "SELECT * FROM e", "a:1,b:1|1,2|2,3|3,1")
}
