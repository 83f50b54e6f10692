package lineage

import (
	"testing"

	"lineage/api"
)

func TestP5New(t *testing.T) {
	one, other := New(), New()
	wantErrno(t, one, api.ErrName, "SELECT * FROM e", "INSERT INTO e VALUES (1)")
	wantAnswer(t, one, "CREATE TABLE e(a INT)", "0")
	wantErrno(t, other, api.ErrName, "SELECT * FROM e")
	wantAnswer(t, other, "CREATE TABLE e(b TEXT)", "0")
	wantAnswer(t, one, "SELECT * FROM e", "a:1")
	wantAnswer(t, other, "SELECT * FROM e", "b:2")
}

// The error of reading comes first, whatever the tables are.
func TestP5Reading(t *testing.T) {
	db := opened(t)
	for _, text := range append(wildTexts(), "CREATE TABLE e(a INT", "INSERT INTO nobody VALUES (x", "SELECT x FROM e, e WHERE 1 1", "SELECT 1 = 1 = 1", "SELECT "+times(31, "(")+"x") {
		_, errno, place := Print(text)
		if errno == api.OK {
			continue
		}
		answer, got, at := db.Run(text)
		if got != errno || at != place || shownAnswer(answer) != "0" {
			t.Errorf("P5: Run(%.80q) = %v, %d, %d, want the error %d at %d", text, answer, got, at, errno, place)
		}
	}
}

func TestP5Create(t *testing.T) {
	db := opened(t)
	wantErrno(t, db, api.ErrTwice, "CREATE TABLE e(x INT)", "CREATE TABLE E(x INT)", "CREATE TABLE e(a INT, b INT)", "CREATE TABLE u(x INT, x INT)", "CREATE TABLE u(x INT, y INT, X TEXT)", "CREATE TABLE e("+columnList(17)+")", "CREATE TABLE u("+columnList(17)+", c0 INT)", "CREATE TABLE u("+columnList(17)+", c16 TEXT)")
	wantErrno(t, db, api.ErrShape, "CREATE TABLE u("+columnList(api.MaxCols+1)+")", "CREATE TABLE u("+columnList(400)+")")
	wantErrno(t, db, api.ErrName, "SELECT * FROM u")
	wantAnswer(t, db, "CREATE TABLE u("+columnList(api.MaxCols)+")", "0")
	wantErrno(t, db, api.ErrTwice, "CREATE TABLE u("+columnList(1)+")")
	wantAnswer(t, db, "SELECT c15, c0 FROM u", "c15:1,c0:1")
}

func TestP5Insert(t *testing.T) {
	db := opened(t)
	wantErrno(t, db, api.ErrName, "INSERT INTO u VALUES (1)", "INSERT INTO u VALUES ('a' + 1, x), (1)", "INSERT INTO e VALUES (1, a)", "INSERT INTO e VALUES (1, e.a)", "INSERT INTO e VALUES (x, TRUE)", "INSERT INTO e VALUES (1, 'a' = x)")
	wantErrno(t, db, api.ErrShape, "INSERT INTO e VALUES (1)", "INSERT INTO e VALUES (1, 2, 3)", "INSERT INTO e VALUES (x)", "INSERT INTO e VALUES ('a')", "INSERT INTO e VALUES (x, y, z)", "INSERT INTO e VALUES (1, 2), (1), (x, y)", "INSERT INTO e VALUES (1, 2), (1, 2, x)", "INSERT INTO e VALUES ("+repeated(900, "1")+")")
	wantErrno(t, db, api.ErrType, "INSERT INTO e VALUES ('a', 1)", "INSERT INTO e VALUES (1, TRUE)", "INSERT INTO t VALUES (1, 1, TRUE)", "INSERT INTO t VALUES (1, 'a', 1)", "INSERT INTO t VALUES (1, 'a', NULL + 1)", "INSERT INTO t VALUES (NULL IS NULL, 'a', TRUE)", "INSERT INTO e VALUES ('a', x)", "INSERT INTO e VALUES (1, 'a' + 1)", "INSERT INTO e VALUES (1, 2), (1, 'a'), (1)", "INSERT INTO e VALUES (1 / 0, 'a')")
	wantAnswer(t, db, "SELECT * FROM e", "a:1,b:1|1,2|2,3|3,1")
	wantAnswer(t, db, "INSERT INTO t VALUES (NULL, NULL, NULL), ((NULL), NULL || NULL, NULL = NULL), (-NULL, 'x', NULL AND TRUE)", "3")
}

func TestP5SourcesOfSelects(t *testing.T) {
	db := opened(t)
	six := "e AS u, e AS v, e AS w, e AS x, e AS y, e AS z"
	wantErrno(t, db, api.ErrShape, "SELECT 1 FROM nobody, "+six, "SELECT x FROM "+six+", e AS z", "SELECT 1 FROM "+six+" JOIN e ON 1", "SELECT "+repeated(17, "x")+" FROM nobody", "SELECT "+repeated(17, "1"), "SELECT *", "SELECT * WHERE TRUE", "SELECT "+repeated(1300, "1"), "SELECT 1 FROM "+repeated(1300, "e"))
	wantAnswer(t, db, "SELECT u.a FROM "+six+" WHERE u.a + v.a + w.a + x.a + y.a + z.a = 6", "a:1|1")
	wantAnswer(t, db, "SELECT "+repeated(16, "1"), ":1"+times(15, ",:1")+"|1"+times(15, ",1"))
	wantErrno(t, db, api.ErrName, "SELECT 1 FROM nobody", "SELECT x FROM nobody AS e", "SELECT 1 FROM nobody, e, e", "SELECT 1 FROM e JOIN nobody ON x", "SELECT 1 FROM e JOIN t ON x JOIN t ON TRUE", "SELECT 1 FROM e AS x, x")
	wantErrno(t, db, api.ErrTwice, "SELECT 1 FROM e, e", "SELECT 1 FROM e, e, nobody", "SELECT 1 FROM e, E AS e", "SELECT 1 FROM e AS x, t AS X", "SELECT 1 FROM e, t AS e", "SELECT 1 FROM t AS e, e", "SELECT 1 FROM e JOIN e ON x", "SELECT * FROM e, e WHERE x")
	wantAnswer(t, db, "SELECT t.a FROM e AS t, t AS e WHERE e.n = t.b", "a:1|1|3")
}

func TestP5ConditionsOfSelects(t *testing.T) {
	db := opened(t)
	wantErrno(t, db, api.ErrName, "SELECT 1 FROM e JOIN t ON q", "SELECT 1 FROM e JOIN t ON u.a = 1, e AS u", "SELECT 1 FROM e JOIN t ON n = u.a JOIN e AS u ON 1", "SELECT y FROM e WHERE x", "SELECT 'a' + 1 FROM e WHERE x", "SELECT 1 WHERE a", "SELECT 1 FROM e JOIN t ON x WHERE 1", "SELECT * WHERE x")
	wantErrno(t, db, api.ErrType, "SELECT 1 FROM e JOIN t ON n", "SELECT 1 FROM e JOIN t ON s WHERE x", "SELECT 1 FROM e JOIN t ON 1 JOIN nobody ON x", "SELECT x FROM e WHERE a", "SELECT 1 WHERE 'a'", "SELECT 1 WHERE NULL + 1", "SELECT * WHERE 1", "SELECT "+repeated(16, "1")+" FROM e WHERE 1 + 'a' = x")
	wantErrno(t, db, api.ErrTwice, "SELECT 1 FROM e AS x, e AS y WHERE a", "SELECT 1 FROM e AS x JOIN e AS y ON a = 'x' WHERE q")
	wantAnswer(t, db, "SELECT b FROM e JOIN t ON f AND a = n", "b:1|2")
	wantAnswer(t, db, "SELECT e.b FROM t AS u, e JOIN t ON t.n = a AND u.n = b", "b:1|2")
	wantAnswer(t, db, "SELECT 1 FROM e JOIN t ON NULL WHERE NULL", ":1")
}

func TestP5Names(t *testing.T) {
	db := opened(t)
	wantErrno(t, db, api.ErrName, "SELECT x", "SELECT e.a", "SELECT a FROM t", "SELECT e.a FROM t", "SELECT e.n FROM e, t", "SELECT t.a FROM e, t", "SELECT e.a FROM e AS x", "SELECT x.n FROM e AS x", "SELECT a.e FROM e", "SELECT q FROM e AS x, e AS y", "SELECT z.a FROM e AS x, e AS y")
	wantErrno(t, db, api.ErrTwice, "SELECT a FROM e AS x, e AS y", "SELECT a FROM e AS x, t, e AS y", "SELECT n, b FROM e AS x, e AS y, t", "SELECT x.a + a FROM e AS x, e AS y")
	wantAnswer(t, db, "SELECT n FROM e, t WHERE a = 1 AND s = 'one'", "n:1|1")
	wantAnswer(t, db, "SELECT X.A FROM e AS x, e AS y WHERE y.b = 1 AND x.a = y.a", "a:1|3")
}

// All operations with operands of each kind: only those of the right one stand.
func TestP5Types(t *testing.T) {
	db := opened(t)
	operands := map[string]string{"1": "int", "-n": "int", "a * b": "int", "'a'": "text", "(s || NULL)": "text", "TRUE": "bool", "(f OR NULL)": "bool", "(1 = 2)": "bool", "(s IS NULL)": "bool", "(NOT f)": "bool", "NULL": "null", "(NULL)": "null", "(NULL + 1)": "int"}
	of := map[string][2]string{"+": {"int", "int"}, "-": {"int", "int"}, "*": {"int", "int"}, "/": {"int", "int"}, "%": {"int", "int"}, "||": {"text", "text"}, "AND": {"bool", "bool"}, "OR": {"bool", "bool"}, "=": {"", "bool"}, "<>": {"", "bool"}, "<": {"", "bool"}, "<=": {"", "bool"}, ">": {"", "bool"}, ">=": {"", "bool"}}
	kinds := map[string]int{"int": api.Int, "text": api.Text, "bool": api.Bool}
	for op, k := range of {
		for left, leftKind := range operands {
			for right, rightKind := range operands {
				text := "SELECT (" + left + ") " + op + " (" + right + ") FROM e, t WHERE FALSE"
				fine := (leftKind == k[0] || leftKind == "null") && (rightKind == k[0] || rightKind == "null")
				if k[0] == "" {
					fine = leftKind == rightKind || leftKind == "null" || rightKind == "null"
				}
				answer, errno, _ := db.Run(text)
				if fine && (errno != api.OK || answer.Kinds[0] != kinds[k[1]]) || !fine && errno != api.ErrType {
					t.Errorf("P5: Run(%q) = %v, %d", text, answer, errno)
				}
			}
		}
	}
	for operand, kind := range operands {
		for ahead, k := range map[string][]string{"-": {"int", "int"}, "NOT ": {"bool", "bool"}} {
			answer, errno, _ := db.Run("SELECT " + ahead + "(" + operand + ") FROM e, t WHERE FALSE")
			fine := kind == k[0] || kind == "null"
			if fine && (errno != api.OK || answer.Kinds[0] != kinds[k[1]]) || !fine && errno != api.ErrType {
				t.Errorf("P5: %s(%s): %v, %d", ahead, operand, answer, errno)
			}
		}
		wantAnswer(t, db, "SELECT ("+operand+") IS NULL, ("+operand+") IS NOT NULL FROM e, t WHERE FALSE", ":3,:3")
	}
}

// First the operands, from left to right, then the operation itself.
func TestP5OrderInExprs(t *testing.T) {
	db := opened(t)
	wantErrno(t, db, api.ErrName, "SELECT 'a' + x", "SELECT x + 'a'", "SELECT x + ('a' + 1)", "SELECT -x || 1", "SELECT NOT x + 1", "SELECT 1 AND x", "SELECT 'a' = (1 = x)", "SELECT (x + 'a') IS NULL", "SELECT x.a + a FROM e, e AS y", "SELECT (1 + y) || 2")
	wantErrno(t, db, api.ErrType, "SELECT ('a' + 1) + x", "SELECT ('a' = 1) + x", "SELECT (NOT 1) = x", "SELECT -'a' = x", "SELECT -'a', x", "SELECT ('a' || 1) IS NULL", "SELECT 1 || 'a' || x")
	wantErrno(t, db, api.ErrTwice, "SELECT a + q FROM e AS x, e AS y", "SELECT 'a' + a FROM e AS x, e AS y", "SELECT a, q FROM e AS x, e AS y")
}

func TestP5Bodies(t *testing.T) {
	db := opened(t)
	wantErrno(t, db, api.ErrShape, "SELECT 1 UNION SELECT 1, 2", "SELECT 1, 2 UNION ALL SELECT 1", "SELECT 1 UNION SELECT 'a', 2", "SELECT * FROM e UNION SELECT 1", "SELECT 1 UNION SELECT 1, 2 UNION SELECT x", "SELECT 1 UNION SELECT 1 UNION SELECT 1, 2", "SELECT 1 UNION SELECT * FROM e, t", "SELECT 1 UNION SELECT *")
	wantErrno(t, db, api.ErrType, "SELECT 1 UNION SELECT 'a'", "SELECT 1, 'a' UNION ALL SELECT 1, TRUE", "SELECT NULL UNION SELECT 'a'", "SELECT 'a' UNION SELECT NULL", "SELECT TRUE UNION SELECT NULL", "SELECT 1 UNION SELECT 2 UNION SELECT TRUE", "SELECT 1 UNION SELECT 'a' UNION SELECT x", "SELECT 1 UNION SELECT 'a' UNION SELECT 1, 2", "SELECT 1, 2 UNION SELECT 'a', TRUE")
	wantErrno(t, db, api.ErrName, "SELECT x UNION SELECT 1, 2", "SELECT 1 UNION SELECT x, y", "SELECT 1 UNION SELECT a FROM e UNION SELECT a FROM t", "SELECT a FROM e UNION SELECT a", "SELECT 1 FROM e UNION SELECT e.a FROM t")
	wantAnswer(t, db, "SELECT NULL UNION SELECT 1 UNION SELECT NULL", ":1|null|1")
	wantAnswer(t, db, "SELECT 1 FROM e UNION ALL SELECT 2 FROM e WHERE FALSE", ":1|1|1|1")
}

// An error of checking comes ahead of all that is met in working out.
func TestP5AheadOfWorkingOut(t *testing.T) {
	db := opened(t)
	wantErrno(t, db, api.ErrName, "SELECT 1 / 0 UNION SELECT x", "SELECT 1 / 0, x", "SELECT x WHERE 1 / 0 = 1", "INSERT INTO e VALUES (1 / 0, x)")
	wantErrno(t, db, api.ErrType, "SELECT 1 / 0 || 'a'", "SELECT 1 / 0 UNION SELECT 'a'", "INSERT INTO e VALUES (1 / 0, 2), (1, 'a')")
	wantErrno(t, db, api.ErrShape, "SELECT 1 / 0 UNION SELECT 1, 2", "INSERT INTO e VALUES (1 / 0, 2), (1)")
}
