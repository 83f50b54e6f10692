package lineage

import (
	"slices"
	"strings"
	"testing"

	"lineage/api"
)

func TestP7Columns(t *testing.T) {
	db := opened(t)
	for text, want := range map[string]string{
		"SELECT a, e.b, a AS x, e.a AS Y, a + b, -a AS z, 1, (a), ((e.a)) FROM e": "a,b,x,y,,z,,a,a",
		"SELECT * FROM e":                               "a,b",
		"SELECT * FROM t AS x, e":                       "n,s,f,a,b",
		"SELECT * FROM e AS x JOIN e ON x.a = e.b":      "a,b,a,b",
		"SELECT n FROM t UNION SELECT a FROM e":         "n",
		"SELECT 1 UNION SELECT a AS x FROM e":           "",
		"SELECT 1 AS x, 2 UNION ALL SELECT a, b FROM e": "x,",
		"SELECT NULL, TRUE AS a, NOT f, 'x' FROM t":     ",a,,",
	} {
		answer, errno, _ := db.Run(text)
		if got := strings.Join(answer.Columns, ","); errno != api.OK || got != want {
			t.Errorf("P7: Run(%q) has the columns %q, %d, want %q", text, got, errno, want)
		}
	}
}

func TestP7Kinds(t *testing.T) {
	db := opened(t)
	for text, want := range map[string][]int{
		"SELECT * FROM t, e": {api.Int, api.Text, api.Bool, api.Int, api.Int},
		"SELECT NULL, -NULL, NULL || NULL, NULL = NULL, NULL OR NULL":   {api.Int, api.Int, api.Text, api.Bool, api.Bool},
		"SELECT NULL IS NULL, NOT NULL, 'a', 1, TRUE":                   {api.Bool, api.Bool, api.Text, api.Int, api.Bool},
		"SELECT s, f, n FROM t WHERE FALSE":                             {api.Text, api.Bool, api.Int},
		"SELECT s || s, f AND f, n % n, n < n, s IS NOT NULL FROM t":    {api.Text, api.Bool, api.Int, api.Bool, api.Bool},
		"SELECT NULL UNION SELECT 1":                                    {api.Int},
		"SELECT s AS n, n AS s FROM t UNION ALL SELECT 'a', 1 FROM e":   {api.Text, api.Int},
		"SELECT (NULL), (NULL) + (NULL), (('a')) FROM e WHERE a = NULL": {api.Int, api.Int, api.Text},
	} {
		if answer, errno, _ := db.Run(text); errno == api.ErrValue || !slices.Equal(answer.Kinds, want) {
			t.Errorf("P7: Run(%q) has the kinds %v, %d, want %v", text, answer.Kinds, errno, want)
		}
	}
}

// Null, then numbers by their size, texts byte by byte, false, true; then by the second values.
func TestP7OrderOfRows(t *testing.T) {
	db := New()
	wantAnswer(t, db, "CREATE TABLE o(n INT, s TEXT, f BOOL)", "0")
	wantAnswer(t, db, "INSERT INTO o VALUES (10, 'b', TRUE), (9, 'B', FALSE), (-9223372036854775807 - 1, 'ab', NULL), (9223372036854775807, '', TRUE), (NULL, 'a', FALSE), (-1, NULL, NULL), (9, 'é', TRUE), (0, 'z', TRUE), (9, 'B', FALSE)", "9")
	wantAnswer(t, db, "SELECT n FROM o", "n:1|null|-9223372036854775808|-1|0|9|9|9|10|9223372036854775807")
	wantAnswer(t, db, "SELECT s FROM o", "s:2|null|''|'B'|'B'|'a'|'ab'|'b'|'z'|'é'")
	wantAnswer(t, db, "SELECT f FROM o", "f:3|null|null|false|false|false|true|true|true|true")
	wantAnswer(t, db, "SELECT f, n FROM o", "f:3,n:1|null,-9223372036854775808|null,-1|false,null|false,9|false,9|true,0|true,9|true,10|true,9223372036854775807")
	wantAnswer(t, db, "SELECT 1, f, s FROM o WHERE n = 9", ":1,f:3,s:2|1,false,'B'|1,false,'B'|1,true,'é'")
	wantAnswer(t, db, "SELECT 2 UNION ALL SELECT NULL UNION ALL SELECT -1 UNION ALL SELECT 2", ":1|null|-1|2|2")
}

func TestP7Unions(t *testing.T) {
	db := opened(t)
	for text, want := range map[string]string{
		"SELECT a FROM e UNION SELECT b FROM e":                                                                         "a:1|1|2|3",
		"SELECT a FROM e UNION ALL SELECT b FROM e":                                                                     "a:1|1|1|2|2|3|3",
		"SELECT 1 UNION ALL SELECT 1 UNION SELECT 2":                                                                    ":1|1|2",
		"SELECT 1 UNION SELECT 2 UNION ALL SELECT 1":                                                                    ":1|1|1|2",
		"SELECT 1 UNION ALL SELECT 1 UNION ALL SELECT 1":                                                                ":1|1|1|1",
		"SELECT 1 FROM e UNION SELECT 1 FROM e":                                                                         ":1|1",
		"SELECT 1 FROM e UNION SELECT 2 WHERE FALSE":                                                                    ":1|1",
		"SELECT 2 UNION SELECT 1 FROM e":                                                                                ":1|1|2",
		"SELECT n FROM t UNION SELECT NULL":                                                                             "n:1|null|1|2",
		"SELECT NULL, 1 UNION SELECT NULL, NULL UNION SELECT NULL, 1":                                                   ":1,:1|null,null|null,1",
		"SELECT '' UNION SELECT 'a' || NULL UNION SELECT ''":                                                            ":2|null|''",
		"SELECT FALSE UNION SELECT NULL AND TRUE UNION SELECT TRUE AND FALSE":                                           ":3|null|false",
		"SELECT 1 WHERE FALSE UNION SELECT 1 WHERE FALSE":                                                               ":1",
		"SELECT a FROM e WHERE a = 1 UNION ALL SELECT a FROM e WHERE a = 1 UNION ALL SELECT b FROM e UNION SELECT 3":    "a:1|1|2|3",
		"SELECT 1, 'a' UNION ALL SELECT 1, 'b' UNION ALL SELECT 1, 'a' UNION SELECT 2, 'a' UNION ALL SELECT 2, 'a'":     ":1,:2|1,'a'|1,'b'|2,'a'|2,'a'",
		"SELECT 1 AS x UNION SELECT 1 UNION ALL SELECT 1 UNION SELECT 1 UNION ALL SELECT 1 UNION ALL SELECT 0 AS other": "x:1|0|1|1",
	} {
		wantAnswer(t, db, text, want)
	}
}

func TestP7MaxRows(t *testing.T) {
	db := New()
	filled(t, db, "a", api.MaxRows)
	filled(t, db, "b", 1)
	wantErrno(t, db, api.ErrMany, "SELECT n FROM a UNION ALL SELECT n FROM b", "SELECT n FROM b UNION ALL SELECT n FROM a", "SELECT n FROM a UNION SELECT 0", "SELECT 0 UNION SELECT n FROM a", "SELECT n FROM a UNION ALL SELECT n FROM b UNION SELECT 1", "SELECT n FROM a UNION ALL SELECT n FROM b UNION ALL SELECT 1 / 0", "SELECT n FROM a UNION SELECT -1 UNION SELECT 1 / 0", "SELECT n FROM a UNION ALL SELECT n FROM a")
	wantErrno(t, db, api.ErrValue, "SELECT n FROM a UNION ALL SELECT 1 / 0", "SELECT 1 / 0 UNION ALL SELECT n FROM a UNION ALL SELECT 1", "SELECT 1 UNION ALL SELECT 1 / (n - 500) FROM a")
	for text, rows := range map[string]int{
		"SELECT n FROM a": 1000,
		"SELECT n FROM a UNION SELECT n FROM a UNION SELECT 1000":                     1000,
		"SELECT n FROM a UNION ALL SELECT n FROM b WHERE FALSE":                       1000,
		"SELECT n FROM a WHERE n > 1 UNION ALL SELECT n FROM b":                       1000,
		"SELECT n FROM a WHERE n > 500 UNION ALL SELECT n FROM a WHERE n > 500":       1000,
		"SELECT n % 10 FROM a UNION SELECT n FROM a":                                  1001,
		"SELECT n % 10 + 1 FROM a UNION SELECT n FROM a":                              1000,
		"SELECT n FROM a WHERE n <= 999 UNION ALL SELECT 0 UNION SELECT n % 2 FROM a": 1000,
	} {
		wantRows(t, db, text, rows)
	}
}

func TestP7ColumnsOfParts(t *testing.T) {
	db := opened(t)
	for text, want := range map[string]string{
		"WITH p(x) AS (SELECT a FROM e) SELECT * FROM p":                                                                                                    "x:1|1|2|3",
		"WITH p(x, y) AS (SELECT NULL, 'a') SELECT y, x FROM p":                                                                                             "y:2,x:1|'a',null",
		"WITH p(x) AS (SELECT 1 AS y) SELECT x AS z, p.x, (x), x + 0 FROM p":                                                                                "z:1,x:1,x:1,:1|1,1,1,1",
		"WITH p(x) AS (SELECT 1 UNION ALL SELECT 1 UNION ALL SELECT 2) SELECT u.x, v.x FROM p AS u, p AS v WHERE u.x = v.x":                                 "x:1,x:1|1,1|1,1|1,1|1,1|2,2",
		"WITH p(x, y, z) AS (SELECT f, s, n FROM t WHERE FALSE) SELECT * FROM p":                                                                            "x:3,y:2,z:1",
		"WITH p(x) AS (SELECT 1), q(x) AS (SELECT 2) SELECT x FROM p UNION SELECT x FROM q":                                                                 "x:1|1|2",
		"WITH p(x) AS (SELECT 2 UNION ALL SELECT 1 UNION ALL SELECT NULL) SELECT x, 1 FROM p":                                                               "x:1,:1|null,1|1,1|2,1",
		"WITH p(x) AS (SELECT 1 UNION ALL SELECT 1 UNION SELECT 2 UNION ALL SELECT 2) SELECT * FROM p":                                                      "x:1|1|2|2",
		"WITH p(x) AS (SELECT 1), q(y) AS (SELECT x + 1 FROM p), r(z) AS (SELECT y + 1 FROM q) SELECT z FROM r UNION SELECT y FROM q UNION SELECT x FROM p": "z:1|1|2|3",
	} {
		wantAnswer(t, db, text, want)
	}
}

// The parts are worked out in their order, then the body: all of them, and each
// but once, whoever speaks of it.
func TestP7OrderOfParts(t *testing.T) {
	db := opened(t)
	filled(t, db, "k", api.MaxRows)
	value, many, rounds := "(SELECT 1 / 0)", "(SELECT n FROM k UNION ALL SELECT 1)", "(SELECT 1 UNION ALL SELECT %.x FROM %)"
	for first, want := range map[string]api.Errno{value: api.ErrValue, many: api.ErrMany, rounds: api.ErrRounds} {
		for _, second := range []string{value, many, rounds, "(SELECT x FROM p)", "(SELECT 1)"} {
			for _, body := range []string{"SELECT 1", "SELECT 1 / 0", "SELECT 1 FROM k, k AS l", "SELECT p.x FROM p, q"} {
				text := "WITH RECURSIVE p(x) AS " + strings.ReplaceAll(first, "%", "p") + ", q(x) AS " + strings.ReplaceAll(second, "%", "q") + " " + body
				wantErrno(t, db, want, text)
			}
		}
		for _, body := range []string{"SELECT 1", "SELECT 1 / 0", "SELECT 1 FROM k, k AS l"} {
			wantErrno(t, db, want, "WITH RECURSIVE p(x) AS (SELECT 7), q(x) AS "+strings.ReplaceAll(first, "%", "q")+" "+body)
		}
	}
	wantErrno(t, db, api.ErrValue, "WITH p(x) AS (SELECT n FROM k) SELECT 1 / (x - 1000) FROM p", "WITH p(x) AS (SELECT 1), q(y) AS (SELECT 1 / (x - 1) FROM p) SELECT x FROM p")
	wantErrno(t, db, api.ErrMany, "WITH p(x) AS (SELECT n FROM k) SELECT 1 FROM p, p AS q", "WITH p(x) AS (SELECT n FROM k) SELECT x FROM p UNION ALL SELECT 0")
}
