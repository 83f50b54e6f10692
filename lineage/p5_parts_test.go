package lineage

import (
	"fmt"
	"strings"
	"testing"

	"lineage/api"
)

// nameList writes names n0, n1 and so on.
func nameList(n int) string {
	var list []string
	for i := range n {
		list = append(list, fmt.Sprintf("n%d", i))
	}
	return strings.Join(list, ", ")
}

func TestP5NamesOfParts(t *testing.T) {
	db := opened(t)
	wantErrno(t, db, api.ErrTwice, "WITH p(x) AS (SELECT 1), p(x) AS (SELECT 1) SELECT 1", "WITH p(x) AS (SELECT 1), P(y) AS (SELECT z) SELECT 1", "WITH p(x) AS (SELECT 1), q(x) AS (SELECT 2), p(x, x) AS (SELECT 1) SELECT 1", "WITH RECURSIVE p(x) AS (SELECT 1), p(x) AS (SELECT x FROM p) SELECT 1", "WITH p(x) AS (SELECT 1), p("+nameList(17)+") AS (SELECT 1) SELECT 1", "WITH RECURSIVE p(x) AS (SELECT 1 UNION SELECT x FROM p), p(x) AS (SELECT 1) SELECT 1")
	wantErrno(t, db, api.ErrTwice, "WITH p(x, x) AS (SELECT 1, 2) SELECT 1", "WITH p(x, y, X) AS (SELECT z) SELECT 1", "WITH p("+nameList(17)+", n3) AS (SELECT 1) SELECT 1", "WITH RECURSIVE p(x, x) AS (SELECT 1, x FROM p) SELECT 1", "WITH p(x) AS (SELECT 1), q(a, b, a) AS (SELECT 1) SELECT z")
	wantErrno(t, db, api.ErrName, "WITH p(x) AS (SELECT z), p(x) AS (SELECT 1) SELECT 1", "WITH p(x) AS (SELECT z), q(x, x) AS (SELECT 1) SELECT 1")
	wantAnswer(t, db, "WITH p(p) AS (SELECT 1), q(p) AS (SELECT 2) SELECT p.p, q.p FROM p, q", "p:1,p:1|1,2")
}

func TestP5MaxColsOfParts(t *testing.T) {
	db := opened(t)
	wantAnswer(t, db, "WITH p("+nameList(16)+") AS (SELECT "+repeated(16, "1")+") SELECT n15, n0 FROM p", "n15:1,n0:1|1,1")
	wantErrno(t, db, api.ErrShape, "WITH p("+nameList(17)+") AS (SELECT z) SELECT 1", "WITH p("+nameList(17)+") AS (SELECT "+repeated(17, "1")+") SELECT 1", "WITH RECURSIVE p("+nameList(17)+") AS (SELECT * FROM p) SELECT 1", "WITH p("+nameList(17)+") AS (SELECT * FROM e AS a, e AS b, e AS c, e AS d, e AS f, t AS g, t AS h) SELECT 1", "WITH p("+nameList(600)+") AS (SELECT 1) SELECT z")
	// All columns of a part that has as many as may be, twice, are more than a part may have.
	wide := "WITH p(" + nameList(16) + ") AS (SELECT " + repeated(16, "1") + ")"
	wantAnswer(t, db, wide+" SELECT * FROM p, e WHERE a = 1", strings.ReplaceAll(nameList(16), ", ", ":1,")+":1,a:1,b:1|1"+times(15, ",1")+",1,2")
	wantErrno(t, db, api.ErrShape, wide+", q("+nameList(16)+") AS (SELECT * FROM p, e) SELECT 1", wide+", q(x) AS (SELECT * FROM p) SELECT 1")
}

func TestP5ShapeOfParts(t *testing.T) {
	db := opened(t)
	wantErrno(t, db, api.ErrShape, "WITH p(x) AS (SELECT 1, 2) SELECT z", "WITH p(x, y) AS (SELECT 1) SELECT z", "WITH p(x) AS (SELECT * FROM e) SELECT 1", "WITH p(x) AS (SELECT 1 UNION SELECT 1, 2) SELECT 1", "WITH p(x) AS (SELECT *) SELECT 1", "WITH p(x) AS (SELECT "+repeated(17, "z")+") SELECT 1", "WITH p(x, y) AS (SELECT 1 UNION SELECT 2 UNION SELECT 3) SELECT 1", "WITH p(x) AS (SELECT 1) SELECT 1 UNION SELECT x, x FROM p")
	// The body is checked ahead of its shape; that of a part that speaks of itself but as far as its first select.
	wantErrno(t, db, api.ErrType, "WITH p(x, y) AS (SELECT 1 UNION SELECT 'a') SELECT 1", "WITH p(x, y) AS (SELECT -'a') SELECT 1", "WITH RECURSIVE p(x, y) AS (SELECT 1 UNION SELECT 'a') SELECT 1", "WITH RECURSIVE p(x, y) AS (SELECT NOT 1 UNION SELECT x FROM p) SELECT 1")
	wantErrno(t, db, api.ErrName, "WITH p(x, y) AS (SELECT z) SELECT 1", "WITH p(x, y) AS (SELECT 1 UNION SELECT z) SELECT 1", "WITH RECURSIVE p(x, y) AS (SELECT z UNION SELECT x FROM p) SELECT 1", "WITH RECURSIVE p(x) AS (SELECT 1 UNION SELECT z, z FROM p) SELECT 1")
	wantErrno(t, db, api.ErrShape, "WITH RECURSIVE p(x, y) AS (SELECT 1 UNION SELECT z FROM p) SELECT 1", "WITH RECURSIVE p(x, y) AS (SELECT 1 UNION SELECT 'a' FROM p) SELECT 1", "WITH RECURSIVE p(x) AS (SELECT 1, 2 UNION SELECT 'a', z FROM p) SELECT 1", "WITH RECURSIVE p(x) AS (SELECT 1 UNION SELECT x, x FROM p) SELECT 1", "WITH RECURSIVE p(x) AS (SELECT 1 UNION SELECT 'a', x FROM p) SELECT 1", "WITH RECURSIVE p(x) AS (SELECT 1 UNION SELECT * FROM p, e) SELECT 1", "WITH RECURSIVE p(x) AS (SELECT 1 UNION SELECT 1 FROM p"+times(6, ", nobody")+") SELECT 1")
}

func TestP5TypesOfParts(t *testing.T) {
	db := opened(t)
	wantErrno(t, db, api.ErrType, "WITH RECURSIVE p(x) AS (SELECT 1 UNION SELECT 'a' FROM p) SELECT 1", "WITH RECURSIVE p(x) AS (SELECT NULL UNION ALL SELECT 'a' FROM p) SELECT 1", "WITH RECURSIVE p(x) AS (SELECT 'a' UNION SELECT NULL FROM p) SELECT 1", "WITH RECURSIVE p(x) AS (SELECT 'a' UNION SELECT x + 1 FROM p) SELECT 1", "WITH RECURSIVE p(x) AS (SELECT TRUE UNION SELECT x FROM p WHERE x || 'a') SELECT 1", "WITH RECURSIVE p(x, y) AS (SELECT 1, 'a' UNION SELECT y, x FROM p) SELECT 1")
	wantErrno(t, db, api.ErrType, "WITH p(x) AS (SELECT 1 WHERE 1) SELECT z", "WITH p(x) AS (SELECT s FROM t) SELECT x + 1 FROM p", "WITH p(x) AS (SELECT NULL) SELECT x || 'a' FROM p", "WITH p(x) AS (SELECT 1), q(y) AS (SELECT NOT x FROM p) SELECT z", "WITH p(x) AS (SELECT 1) SELECT x FROM p UNION SELECT 'a'")
	wantAnswer(t, db, "WITH p(x, y, z, w) AS (SELECT NULL, s, f, 1 = n FROM t WHERE n = 1) SELECT x + 1, y || 'a', NOT z, w FROM p", ":1,:2,:3,w:3|null,'onea',false,true")
}

// A part is to be seen behind itself, a part that speaks of itself in its second select too.
func TestP5WherePartsAreSeen(t *testing.T) {
	db := opened(t)
	wantErrno(t, db, api.ErrName, "WITH p(x) AS (SELECT x FROM p) SELECT 1", "WITH p(x) AS (SELECT 1 UNION SELECT x FROM p) SELECT 1", "WITH p(x) AS (SELECT y FROM q), q(y) AS (SELECT 1) SELECT 1", "WITH RECURSIVE p(x) AS (SELECT y FROM q), q(y) AS (SELECT 1) SELECT 1", "WITH RECURSIVE p(x) AS (SELECT 1 UNION SELECT x FROM p, q), q(y) AS (SELECT 1 UNION SELECT y FROM q) SELECT 1", "WITH p(x) AS (SELECT 1) SELECT a FROM p", "WITH p(x) AS (SELECT a FROM e) SELECT e.x FROM p", "WITH p(x) AS (SELECT 1) SELECT p.x FROM p AS q", "WITH p(x) AS (SELECT 1) SELECT x", "WITH p(x) AS (SELECT 1 AS y) SELECT y FROM p", "WITH RECURSIVE p(x) AS (SELECT 1 AS y UNION SELECT y FROM p) SELECT 1", "WITH p(x) AS (SELECT z) SELECT *")
	wantErrno(t, db, api.ErrTwice, "WITH p(x) AS (SELECT 1) SELECT 1 FROM p, p", "WITH p(x) AS (SELECT 1) SELECT x FROM p, p AS q", "WITH p(x) AS (SELECT 1), q(x) AS (SELECT 1) SELECT x FROM p, q", "WITH p(a) AS (SELECT 1) SELECT a FROM p, e", "WITH RECURSIVE p(x) AS (SELECT 1 UNION SELECT 1 FROM p, e AS p) SELECT 1")
	for text, want := range map[string]string{
		"WITH p(x) AS (SELECT a FROM e), q(y) AS (SELECT x FROM p WHERE x > 1), r(z) AS (SELECT x + y FROM p, q) SELECT z FROM r": "z:1|3|4|4|5|5|6",
		"WITH p(x) AS (SELECT 1) SELECT q.x FROM p AS q":                                                                        "x:1|1",
		"WITH p(x) AS (SELECT 1) SELECT x FROM p UNION ALL SELECT x + 1 FROM p":                                                 "x:1|1|2",
		"WITH p(x) AS (SELECT 1) SELECT e.a FROM p AS e JOIN e AS p ON e.x = p.a":                                               "error 3",
		"WITH p(x) AS (SELECT 1) SELECT p.a, e.x FROM p AS e JOIN e AS p ON e.x = p.a":                                          "a:1,x:1|1,1",
		"WITH RECURSIVE p(x) AS (SELECT 1), q(y) AS (SELECT x FROM p UNION SELECT y + x FROM q, p WHERE y < 3) SELECT y FROM q": "y:1|1|2|3",
	} {
		wantAnswer(t, db, text, want)
	}
	wantErrno(t, db, api.ErrName, "SELECT 1 FROM p", "INSERT INTO p VALUES (1)")
	wantAnswer(t, db, "CREATE TABLE p(a TEXT)", "0")
}

// A part's name goes ahead of a table's, where the part is to be seen.
func TestP5PartsWithNamesOfTables(t *testing.T) {
	db := opened(t)
	for text, want := range map[string]string{
		"WITH e(z) AS (SELECT 7) SELECT * FROM e":                                                               "z:1|7",
		"WITH e(z) AS (SELECT a FROM e WHERE a = 1) SELECT * FROM e":                                            "z:1|1",
		"WITH e(z) AS (SELECT 7), p(x) AS (SELECT z FROM e) SELECT x FROM p":                                    "x:1|7",
		"WITH p(x) AS (SELECT a FROM e), e(z) AS (SELECT 7) SELECT x, z FROM p, e":                              "x:1,z:1|1,7|2,7|3,7",
		"WITH e(z) AS (SELECT 7) SELECT z, n FROM e, t WHERE n = 2":                                             "z:1,n:1|7,2",
		"WITH e(z) AS (SELECT x.a FROM e AS x, e AS y) SELECT z FROM e AS p WHERE z = 1":                        "z:1|1|1|1",
		"WITH RECURSIVE e(z) AS (SELECT 1 UNION SELECT z + 1 FROM e WHERE z < 3) SELECT * FROM e":               "z:1|1|2|3",
		"WITH RECURSIVE e(z) AS (SELECT 7), t(y) AS (SELECT z FROM e UNION SELECT 8 FROM t) SELECT * FROM t, e": "y:1,z:1|7,7|8,7",
	} {
		wantAnswer(t, db, text, want)
		wantAnswer(t, db, "SELECT * FROM e", "a:1,b:1|1,2|2,3|3,1")
	}
	wantErrno(t, db, api.ErrName, "WITH e(z) AS (SELECT 7) SELECT a FROM e", "WITH RECURSIVE e(z) AS (SELECT 7 UNION SELECT a FROM e) SELECT 1", "WITH t(z) AS (SELECT 7), p(x) AS (SELECT n FROM t) SELECT 1")
	wantErrno(t, db, api.ErrLinear, "WITH RECURSIVE e(x) AS (SELECT a FROM e) SELECT 1", "WITH RECURSIVE e(x) AS (SELECT a FROM e UNION SELECT 1) SELECT 1")
}

// A part that speaks of itself in a wrong place.
func TestP5Linear(t *testing.T) {
	db := opened(t)
	for _, body := range []string{
		"SELECT x FROM p", "SELECT 1 FROM e, p", "SELECT x FROM p UNION SELECT 1", "SELECT x FROM p UNION SELECT x FROM p", "SELECT 1 UNION SELECT u.x FROM p AS u, p AS v", "SELECT 1 UNION SELECT u.x FROM p AS u JOIN p ON TRUE", "SELECT 1 UNION SELECT x FROM p, p",
		"SELECT 1 UNION SELECT x FROM p UNION SELECT 2", "SELECT 1 UNION SELECT 2 UNION SELECT x FROM p", "SELECT 1 UNION ALL SELECT x FROM p UNION ALL SELECT x FROM p", "SELECT x FROM p UNION SELECT 1 UNION SELECT 2", "SELECT 1 FROM p AS q UNION SELECT 2",
		"SELECT z FROM p", "SELECT z, y FROM nobody UNION SELECT q FROM p UNION SELECT 'a' + 1", "SELECT 1 UNION SELECT 1 FROM p, e, e, e, e, e, e, e, p", "SELECT " + repeated(17, "1") + " FROM p", "SELECT 1, 2 FROM p", "SELECT 1 FROM nobody, p",
	} {
		wantErrno(t, db, api.ErrLinear, "WITH RECURSIVE p(x) AS ("+body+") SELECT 1", "WITH RECURSIVE q(y) AS (SELECT 1), p(x) AS ("+body+"), q(y) AS (SELECT z) SELECT z")
		if _, errno, _ := db.Run("WITH p(x) AS (" + body + ") SELECT 1"); errno == api.OK || errno == api.ErrLinear {
			t.Errorf("P5: %q without RECURSIVE: %d", body, errno)
		}
	}
	wantErrno(t, db, api.ErrTwice, "WITH RECURSIVE p(x, x) AS (SELECT x FROM p) SELECT 1", "WITH RECURSIVE p(x) AS (SELECT 1), p(y) AS (SELECT y FROM p) SELECT 1")
	wantErrno(t, db, api.ErrShape, "WITH RECURSIVE p("+nameList(17)+") AS (SELECT n0 FROM p) SELECT 1")
	wantErrno(t, db, api.ErrName, "WITH RECURSIVE p(x) AS (SELECT z), q(y) AS (SELECT y FROM q) SELECT 1", "WITH RECURSIVE p(x) AS (SELECT y FROM q), q(y) AS (SELECT y FROM q) SELECT 1")
}

// What is behind AS, or names a column, does not speak of the part.
func TestP5NotOfItself(t *testing.T) {
	db := opened(t)
	for text, want := range map[string]string{
		"WITH RECURSIVE p(x) AS (SELECT 1 UNION SELECT 2 FROM e AS p WHERE p.a = 1) SELECT * FROM p":                                                                           "x:1|1|2",
		"WITH RECURSIVE p(x) AS (SELECT p.a FROM e AS p) SELECT * FROM p":                                                                                                      "x:1|1|2|3",
		"WITH RECURSIVE p(x) AS (SELECT a AS p FROM e UNION SELECT 1 UNION SELECT 7) SELECT * FROM p":                                                                          "x:1|1|2|3|7",
		"WITH RECURSIVE p(p) AS (SELECT a FROM e) SELECT p.p FROM p":                                                                                                           "p:1|1|2|3",
		"WITH RECURSIVE p(x) AS (SELECT 1 UNION SELECT q.x + 1 FROM p AS q WHERE q.x < 3) SELECT * FROM p":                                                                     "x:1|1|2|3",
		"WITH RECURSIVE p(x) AS (SELECT 1 FROM e AS p UNION ALL SELECT p.x + 1 FROM p WHERE x < 2) SELECT x FROM p":                                                            "x:1|1|1|1|2|2|2",
		"WITH RECURSIVE p(x) AS (SELECT 1 UNION SELECT 2 UNION SELECT 3), q(y) AS (SELECT x FROM p UNION ALL SELECT y + 1 FROM q JOIN p ON x = y WHERE y < 3) SELECT * FROM q": "y:1|1|2|2|3|3|3",
	} {
		wantAnswer(t, db, text, want)
	}
}

// First the parts in their order, then the body; and all ahead of working out.
func TestP5OrderOfParts(t *testing.T) {
	db := opened(t)
	wantErrno(t, db, api.ErrType, "WITH p(x) AS (SELECT -'a'), q(y) AS (SELECT z) SELECT *", "WITH p(x) AS (SELECT 1 / 0), q(y) AS (SELECT -'a') SELECT 1", "WITH p(x) AS (SELECT 1 / 0) SELECT -'a'")
	wantErrno(t, db, api.ErrShape, "WITH p(x) AS (SELECT 1) SELECT *", "WITH p(x) AS (SELECT 1, 1), p(x) AS (SELECT -'a') SELECT z", "WITH RECURSIVE p(x) AS (SELECT 1 UNION ALL SELECT x FROM p) SELECT 1 UNION SELECT 1, 2")
	wantErrno(t, db, api.ErrName, "WITH p(x) AS (SELECT 1) SELECT z", "WITH RECURSIVE p(x) AS (SELECT 1 UNION ALL SELECT x FROM p) SELECT z", "WITH RECURSIVE p(x) AS (SELECT 1 / 0 UNION ALL SELECT z FROM p) SELECT 1")
	wantErrno(t, db, api.ErrLinear, "WITH RECURSIVE p(x) AS (SELECT 1 / 0), q(y) AS (SELECT y FROM q) SELECT z")
}
