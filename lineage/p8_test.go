package lineage

import (
	"fmt"
	"math/big"
	"testing"

	"lineage/api"
)

func TestP8Steps(t *testing.T) {
	db := opened(t)
	for text, want := range map[string]string{
		"SELECT 5":                                             ":1|5",
		"SELECT 5 WHERE 1 = 1":                                 ":1|5",
		"SELECT 5 WHERE FALSE":                                 ":1",
		"SELECT 5 WHERE NULL":                                  ":1",
		"SELECT 5 FROM e":                                      ":1|5|5|5",
		"SELECT a FROM e, t WHERE n > 0":                       "a:1|1|1|2|2|3|3",
		"SELECT n FROM t WHERE f":                              "n:1|1",
		"SELECT n FROM t WHERE NOT f":                          "n:1|null",
		"SELECT n FROM t WHERE f OR TRUE":                      "n:1|null|1|2",
		"SELECT n FROM t WHERE f IS NULL":                      "n:1|2",
		"SELECT n FROM t WHERE s <> 'one'":                     "n:1|null",
		"SELECT x.a, y.a FROM e AS x, e AS y WHERE x.b = y.a":  "a:1,a:1|1,2|2,3|3,1",
		"SELECT x.a, y.a FROM e AS x JOIN e AS y ON x.b = y.a": "a:1,a:1|1,2|2,3|3,1",
		"SELECT * FROM e JOIN t ON a = n":                      "a:1,b:1,n:1,s:2,f:3|1,2,1,'one',true|2,3,2,null,null",
		"SELECT a FROM e JOIN t ON n = NULL":                   "a:1",
		"SELECT x.a, z.b FROM e AS x JOIN e AS y ON x.b = y.a, t JOIN e AS z ON y.b = z.a WHERE n = z.b": "a:1,b:1|1,1|2,2",
		"SELECT x.a FROM e AS x, e AS y JOIN e AS z ON x.a + y.a + z.a = 9":                              "a:1|3",
		"SELECT b FROM e WHERE a + 1 = b":                                                                "b:1|2|3",
	} {
		wantAnswer(t, db, text, want)
	}
	wantAnswer(t, db, "CREATE TABLE none(x INT)", "0")
	wantAnswer(t, db, "SELECT 1 FROM none", ":1")
	wantAnswer(t, db, "SELECT * FROM e, none, t", "a:1,b:1,x:1,n:1,s:2,f:3")
	wantAnswer(t, db, "SELECT 1 FROM none WHERE 1 / 0 = 1", ":1")
}

// An error is met in the rows that a step has, and in no others.
func TestP8ErrValueInRows(t *testing.T) {
	db := opened(t)
	wantErrno(t, db, api.ErrValue, "SELECT 1 / 0", "SELECT 1 WHERE 1 / 0 = 1", "SELECT a / (a - 2) FROM e", "SELECT 1 FROM e WHERE 1 / (a - 3) = 1 AND FALSE", "SELECT 1 FROM e WHERE FALSE AND 1 / (a - 3) = 1", "SELECT 1 FROM e WHERE TRUE OR 1 / 0 = 1", "SELECT 1 FROM e JOIN t ON 1 / (a - b + 1) = 1", "SELECT 1 FROM e JOIN t ON 1 / (n - 2) = 7 WHERE FALSE", "SELECT 1 FROM e JOIN t ON 1 / 0 = 1, t AS x WHERE FALSE", "SELECT 1, a, 1 / (3 - a) FROM e", "SELECT NULL + 1 / 0", "SELECT (1 / 0) IS NULL", "SELECT NOT 1 / 0 = 1")
	wantAnswer(t, db, "SELECT 1 / 0 WHERE FALSE", ":1")
	wantAnswer(t, db, "SELECT 1 / 0 FROM e WHERE NULL", ":1")
	wantAnswer(t, db, "SELECT a / (a - 2) FROM e WHERE a <> 2", ":1|-1|3")
	wantAnswer(t, db, "SELECT 1 / (a - 2) FROM e JOIN t ON a <> 2 AND n = 1", ":1|-1|1")
	wantAnswer(t, db, "SELECT 1 FROM e JOIN t ON FALSE JOIN t AS x ON 1 / 0 = 1 WHERE 1 / 0 = 1", ":1")
}

func TestP8MaxMade(t *testing.T) {
	db := New()
	for table, rows := range map[string]int{"k": 1000, "v": 20, "w": 21, "p": 59, "q": 113, "r": 3, "s": 1} {
		filled(t, db, table, rows)
	}
	// 1000 times 20 are as many as may be; 59 times 113 times 3 are one more.
	wantAnswer(t, db, "SELECT k.n FROM k, v WHERE k.n = 7 AND v.n = 7", "n:1|7")
	wantAnswer(t, db, "SELECT k.n FROM v JOIN k ON k.n = v.n, s WHERE k.n < 3", "n:1|1|2")
	wantAnswer(t, db, "SELECT k.n FROM s, v, s AS t, k WHERE k.n = 3 AND v.n = 2", "n:1|3")
	wantErrno(t, db, api.ErrMany, "SELECT 1 FROM k, w WHERE FALSE", "SELECT 1 FROM w, k WHERE FALSE", "SELECT 1 FROM p, q, r WHERE FALSE", "SELECT 1 FROM p, q JOIN r ON FALSE", "SELECT 1 FROM k JOIN w ON 1 / 0 = 1", "SELECT 1 FROM k, k AS x WHERE 1 / 0 = 1", "SELECT 1 FROM k JOIN k AS x ON k.n = x.n", "SELECT 1 FROM k, w, k AS x WHERE FALSE")
	wantAnswer(t, db, "SELECT q.n FROM p JOIN q ON q.n > 1 JOIN r ON q.n = 2 AND p.n = 2", "n:1|2|2|2")
	wantErrno(t, db, api.ErrValue, "SELECT 1 FROM k JOIN v ON 1 / (k.n - v.n) = 1, k AS x", "SELECT 1 FROM s JOIN s AS t ON 1 / 0 = 1, k, w")
	wantAnswer(t, db, "SELECT k.n FROM k JOIN s ON k.n = s.n, k AS x WHERE x.n = 1", "n:1|1")
	wantAnswer(t, db, "SELECT 1 FROM k JOIN s ON FALSE, k AS x, k AS y, k AS z", ":1")
}

func TestP8MaxRows(t *testing.T) {
	db := New()
	for table, rows := range map[string]int{"k": 1000, "c": 10, "d": 100, "u": 7, "v": 11, "w": 13} {
		filled(t, db, table, rows)
	}
	for text, rows := range map[string]int{
		"SELECT 1 FROM k":                  1000,
		"SELECT 1 FROM c, d":               1000,
		"SELECT 1 FROM u, v, w":            1001,
		"SELECT 1 FROM u, v, w WHERE TRUE": 1001,
		"SELECT 1 FROM u, v, w WHERE u.n < v.n OR v.n < w.n OR w.n < 14": 1001,
		"SELECT 1 / 0 FROM u, v, w":                                      1001,
		"SELECT 1 FROM u, v, w WHERE u.n + v.n + w.n < 31":               1000,
		"SELECT 1 FROM u, v, w, c":                                       1001,
		"SELECT 1 FROM u, v, w, c WHERE c.n = 1":                         1001,
		"SELECT 1 FROM u, v JOIN w ON v.n = w.n JOIN d ON d.n > 87":      1001,
		"SELECT 1 FROM k UNION SELECT 1 FROM u, v, w":                    1001,
		"SELECT 1 FROM u, v, w UNION SELECT 1 / 0":                       1001,
	} {
		wantRows(t, db, text, rows)
	}
	wantErrno(t, db, api.ErrValue, "SELECT 1 FROM u, v, w WHERE 1 / (u.n - 7) = 1", "SELECT 1 / (n - 1000) FROM k", "SELECT 1 / 0 FROM c, d", "SELECT 1 FROM u, v, w WHERE 1 / 0 = 1")
}

// Numbers at the ends of the 64 bits, held against numbers without ends.
func TestP8Numbers(t *testing.T) {
	db := New()
	numbers := map[string]string{"0": "0", "1": "1", "-1": "-1", "2": "2", "-2": "-2", "7": "7", "-7": "-7", "3037000499": "3037000499", "3037000500": "3037000500", "-3037000500": "-3037000500", "4611686018427387904": "4611686018427387904", "-4611686018427387904": "-4611686018427387904", "9223372036854775806": "9223372036854775806", "9223372036854775807": "9223372036854775807", "-9223372036854775807": "-9223372036854775807", "(-9223372036854775807 - 1)": "-9223372036854775808"}
	for left, a := range numbers {
		wantNumber(t, db, "-"+left, new(big.Int).Neg(bigOf(a)))
		for right, b := range numbers {
			x, y := bigOf(a), bigOf(b)
			wantNumber(t, db, left+" + "+right, new(big.Int).Add(x, y))
			wantNumber(t, db, left+" - "+right, new(big.Int).Sub(x, y))
			wantNumber(t, db, left+" * "+right, new(big.Int).Mul(x, y))
			if y.Sign() == 0 {
				wantErrno(t, db, api.ErrValue, "SELECT "+left+" / "+right, "SELECT "+left+" % "+right)
				continue
			}
			wantNumber(t, db, left+" / "+right, new(big.Int).Quo(x, y))
			wantNumber(t, db, left+" % "+right, new(big.Int).Rem(x, y))
			wantValue(t, db, left+" < "+right, fmt.Sprint(x.Cmp(y) < 0))
			wantValue(t, db, left+" >= "+right, fmt.Sprint(x.Cmp(y) >= 0))
		}
	}
}

func bigOf(digits string) *big.Int {
	number, _ := new(big.Int).SetString(digits, 10)
	return number
}

func wantNumber(t *testing.T, db *DB, expr string, want *big.Int) {
	t.Helper()
	if !want.IsInt64() {
		wantErrno(t, db, api.ErrValue, "SELECT "+expr)
		return
	}
	wantValue(t, db, expr, want.String())
}

func TestP8Nulls(t *testing.T) {
	db := New()
	for _, op := range []string{"+", "-", "*", "/", "%", "=", "<>", "<", "<=", ">", ">="} {
		wantValue(t, db, "1 "+op+" NULL", "null")
		wantValue(t, db, "NULL "+op+" 0", "null")
		wantValue(t, db, "NULL "+op+" NULL", "null")
		wantErrno(t, db, api.ErrValue, "SELECT NULL "+op+" (1 / 0)", "SELECT 1 / 0 "+op+" NULL")
	}
	for expr, want := range map[string]string{"-NULL": "null", "NOT NULL": "null", "NULL || 'a'": "null", "'a' || NULL": "null", "NULL || NULL": "null", "NULL = 'a'": "null", "TRUE <> NULL": "null", "NULL IS NULL": "true", "NULL IS NOT NULL": "false", "1 / NULL IS NULL": "true", "0 IS NULL": "false", "0 IS NOT NULL": "true", "'' IS NULL": "false", "FALSE IS NOT NULL": "true", "(NULL IS NULL) IS NULL": "false"} {
		wantValue(t, db, expr, want)
	}
}

func TestP8Truths(t *testing.T) {
	db := New()
	and := map[string]string{"TRUE TRUE": "true", "TRUE FALSE": "false", "TRUE NULL": "null", "FALSE TRUE": "false", "FALSE FALSE": "false", "FALSE NULL": "false", "NULL TRUE": "null", "NULL FALSE": "false", "NULL NULL": "null"}
	or := map[string]string{"TRUE TRUE": "true", "TRUE FALSE": "true", "TRUE NULL": "true", "FALSE TRUE": "true", "FALSE FALSE": "false", "FALSE NULL": "null", "NULL TRUE": "true", "NULL FALSE": "null", "NULL NULL": "null"}
	for _, left := range []string{"TRUE", "FALSE", "NULL"} {
		for _, right := range []string{"TRUE", "FALSE", "NULL"} {
			wantValue(t, db, left+" AND "+right, and[left+" "+right])
			wantValue(t, db, left+" OR "+right, or[left+" "+right])
		}
		for _, op := range []string{"AND", "OR"} {
			wantErrno(t, db, api.ErrValue, "SELECT "+left+" "+op+" 1 / 0 = 1", "SELECT 1 % 0 = 1 "+op+" "+left)
		}
	}
	wantValue(t, db, "NOT TRUE", "false")
	wantValue(t, db, "NOT FALSE", "true")
}

func TestP8Comparisons(t *testing.T) {
	db := New()
	for _, pair := range [][2]string{{"1", "2"}, {"-2", "1"}, {"-9223372036854775807 - 1", "9223372036854775807"}, {"''", "'a'"}, {"'a'", "'ab'"}, {"'B'", "'a'"}, {"'a'", "'b'"}, {"'10'", "'9'"}, {"'z'", "'\x80'"}, {"'z'", "'é'"}, {"FALSE", "TRUE"}} {
		for op, want := range map[string][3]string{"=": {"false", "true", "false"}, "<>": {"true", "false", "true"}, "<": {"true", "false", "false"}, "<=": {"true", "true", "false"}, ">": {"false", "false", "true"}, ">=": {"false", "true", "true"}} {
			wantValue(t, db, pair[0]+" "+op+" "+pair[1], want[0])
			wantValue(t, db, pair[0]+" "+op+" "+pair[0], want[1])
			wantValue(t, db, pair[1]+" "+op+" "+pair[1], want[1])
			wantValue(t, db, pair[1]+" "+op+" "+pair[0], want[2])
		}
	}
}

func TestP8MaxLong(t *testing.T) {
	db := New()
	long := times(api.MaxLong, "x")
	wantValue(t, db, "'a' || 'b' || ''", "'ab'")
	wantValue(t, db, "'it''s' || ''''", "'it's''")
	wantValue(t, db, "'"+long+"' || ''", "'"+long+"'")
	wantValue(t, db, "'"+long[1:]+"' || 'y'", "'"+long[1:]+"y'")
	wantValue(t, db, "'"+long+"yz'", "'"+long+"yz'")
	wantValue(t, db, "'"+long+"y' || NULL", "null")
	wantErrno(t, db, api.ErrValue, "SELECT '"+long+"' || 'y'", "SELECT '' || '"+long+"y'", "SELECT '"+long[2:]+"é' || 'y'", "SELECT NULL || ('"+long+"' || 'y')", "SELECT '"+long+"' || 'a' || NULL")
}

func TestP8Examples(t *testing.T) {
	db := New()
	wantAnswer(t, db, "CREATE TABLE e (a INT, b INT)", "0")
	wantErrno(t, db, api.ErrTwice, "CREATE TABLE e (a INT, b INT)")
	wantAnswer(t, db, "INSERT INTO e VALUES (1, 2), (2, 3), (3, 1)", "3")
	wantAnswer(t, db, "SELECT b FROM e WHERE a + 1 = b", "b:1|2|3")
	wantAnswer(t, db, "SELECT 1 = 1 = 1", "error 1 at 13")
	wantErrno(t, db, api.ErrValue, "SELECT 9223372036854775807 + 1")
	wantAnswer(t, db, "SELECT NULL AND FALSE, NULL OR FALSE, 1 / NULL", ":3,:3,:1|false,null,null")
	wantErrno(t, db, api.ErrType, "SELECT 'a' + 1")
	wantErrno(t, db, api.ErrName, "SELECT x")
}
