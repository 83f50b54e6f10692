package lineage

import (
	"fmt"
	"strings"
	"testing"

	"lineage/api"
)

// wildTexts are texts of all kinds, most of them wrong.
func wildTexts() []string {
	m := newMaker(1)
	texts := []string{"", "\x00", strings.Repeat("(", api.MaxText), strings.Repeat("(", 100000), "SELECT " + strings.Repeat("-", 3993), "SELECT 1" + strings.Repeat("+1", 1996), "SELECT a" + strings.Repeat(" OR a", 798), "SELECT '" + strings.Repeat("''", 1995) + "'", "SELECT" + strings.Repeat(" NOT", 900), "SELECT 1" + strings.Repeat(" UNION SELECT 1", 260)}
	for range 2000 {
		bytes := make([]byte, m.Intn(60))
		m.Read(bytes)
		texts = append(texts, string(bytes), m.text(m.sentence()), m.text(m.spoil(m.sentence())))
	}
	whole := "WITH RECURSIVE p(a) AS (SELECT -1 UNION ALL SELECT a + 1 AS b FROM p JOIN q AS r ON NOT a IS NULL WHERE (a = 'it''s') = TRUE) SELECT * FROM p;"
	for i := range whole {
		texts = append(texts, whole[:i], whole[i:])
	}
	return texts
}

func TestP1EveryCallEnds(t *testing.T) {
	fine := 0
	for _, text := range wildTexts() {
		plain, errno, place := Print(text)
		switch errno {
		case api.OK:
			fine++
			if plain == "" || place != 0 {
				t.Errorf("P1: Print(%.80q) = %q, %d, %d", text, plain, errno, place)
			}
		case api.ErrText, api.ErrDeep:
			if plain != "" || place < 0 || place > min(len(text), api.MaxText) {
				t.Errorf("P1: Print(%.80q) = %q, %d, %d", text, plain, errno, place)
			}
		default:
			t.Errorf("P1: Print(%.80q) answers the error %d", text, errno)
		}
	}
	if fine < 1000 {
		t.Errorf("only %d of the texts can be read", fine)
	}
}

func TestP1RunEnds(t *testing.T) {
	db := opened(t)
	for _, text := range append(wildTexts(), greatTexts(t, db)...) {
		answer, errno, place := db.Run(text)
		if errno != api.OK && (answer.Count != 0 || answer.Columns != nil || answer.Kinds != nil || answer.Rows != nil) {
			t.Errorf("P1: Run(%.80q) = %v beside the error %d", text, answer, errno)
		}
		reading := errno == api.ErrText || errno == api.ErrDeep
		if place < 0 || place > min(len(text), api.MaxText) || !reading && place != 0 {
			t.Errorf("P1: Run(%.80q) has the place %d beside the error %d", text, place, errno)
		}
	}
}

// greatTexts are texts near all limits at once.
func greatTexts(t *testing.T, db *DB) []string {
	filled(t, db, "k", api.MaxRows)
	filled(t, db, "v", api.MaxMade/api.MaxRows)
	return []string{
		"SELECT k.n" + times(1300, "+n") + " FROM k",
		"SELECT k.n FROM k JOIN v ON v.n" + times(480, "*v.n-k.n") + " = 1",
		"SELECT 1 FROM k, v WHERE NOT v.n IS NULL" + times(300, " OR k.n = 7"),
		"SELECT *FROM k,v WHERE FALSE" + times(100, " UNION SELECT*FROM k,v WHERE k.n<0"),
		"SELECT *FROM k" + times(180, " UNION SELECT*FROM k"),
		"SELECT " + repeated(16, "'"+times(200, "x")+"'||s") + " FROM k, t WHERE t.n = 1",
		"SELECT 1 FROM " + repeated(1300, "k"),
		"SELECT a FROM " + repeated(1300, "e"),
		"WITH RECURSIVE r(n)AS(SELECT 1 UNION ALL SELECT r.n+1 FROM r,k,v WHERE k.n=1 AND v.n=1 AND r.n<200)SELECT*FROM r",
		"WITH RECURSIVE r(n)AS(SELECT 1 UNION SELECT k.n FROM r,k JOIN v ON k.n=r.n+v.n WHERE v.n=1" + times(60, " OR v.n=k.n AND v.n>20") + ")SELECT*FROM r,v",
		"WITH RECURSIVE r(" + nameList(16) + ")AS(SELECT" + times(15, " 'x'||'y',") + " 1 UNION SELECT" + times(15, " n0,") + " k.n%999 FROM r,k WHERE n15<200 AND k.n<=n15+1)SELECT*FROM r AS s,r",
		"WITH " + strings.Join(manyParts(130, "(x)AS(SELECT*FROM k)"), ",") + "SELECT*FROM p0",
		"WITH RECURSIVE " + strings.Join(manyParts(90, "(x)AS(SELECT*FROM %)"), ",") + "SELECT 1",
		"WITH RECURSIVE " + strings.Join(manyParts(50, "(x)AS(SELECT 1 UNION ALL SELECT x+1 FROM % WHERE x<200)"), ",") + "SELECT*FROM p7",
		"WITH p(x)AS(SELECT 1 FROM " + repeated(1000, "p") + ")SELECT*FROM p",
		"WITH p(" + nameList(500) + ")AS(SELECT*FROM e)SELECT * FROM p,p,p,p,p,p,p,p",
		"WITH RECURSIVE p(x)AS(SELECT*FROM p" + times(180, " UNION SELECT*FROM p") + ")SELECT 1",
		"INSERT INTO e VALUES " + repeated(400, "(1, 2)"),
		"INSERT INTO e VALUES (1, 1" + times(1900, "-1") + ")",
		"CREATE TABLE z(" + columnList(400) + ")",
	}
}

// manyParts writes parts p0, p1 and so on; % is the name of each.
func manyParts(n int, part string) []string {
	var parts []string
	for i := range n {
		name := fmt.Sprintf("p%d", i)
		parts = append(parts, name+strings.ReplaceAll(part, "%", name))
	}
	return parts
}

// A database that ran wrong texts, too, answers like one that never did.
func TestP1NothingIsChangedBesideAnError(t *testing.T) {
	q := newQueryMaker(11)
	both, right := New(), New()
	refused := 0
	for range 1500 {
		text := q.anyText()
		if strings.HasPrefix(text, "INSERT") || strings.HasPrefix(text, "CREATE") {
			q.model.run(text)
		}
		shown := shownRun(both, text)
		if strings.HasPrefix(shown, "error") {
			refused++
			continue
		}
		if got := shownRun(right, text); got != shown {
			t.Fatalf("P1: Run(%q) = %.300s, without the wrong texts %.300s", text, shown, got)
		}
	}
	if refused < 250 {
		t.Errorf("only %d texts are wrong", refused)
	}
}

func TestP1NothingIsChangedByHand(t *testing.T) {
	db := opened(t)
	e, s := "a:1,b:1|1,2|2,3|3,1", "n:1,s:2,f:3|null,'b',false|1,'one',true|2,null,null"
	for _, text := range []string{"CREATE TABLE e(x TEXT)", "CREATE TABLE u(x INT, x INT)", "CREATE TABLE u(" + columnList(17) + ")", "CREATE TABLE u(x INT", "INSERT INTO e VALUES (7, 7), (7)", "INSERT INTO e VALUES (7, 7), (7, 'a')", "INSERT INTO e VALUES (7, 7), (7, x)", "INSERT INTO e VALUES (7, 7), (7, 7 / 0)", "INSERT INTO e VALUES (7, 7) (7, 7)", "INSERT INTO t VALUES (7, 'a', TRUE), (7, '" + times(251, "x") + "' || '', TRUE)", "SELECT 1 / 0 FROM e", "SELECT x FROM e", "WITH e(x) AS (SELECT 7) SELECT 1 / 0", "WITH e(x) AS (SELECT 1 / 0) SELECT 1", "WITH u(x) AS (SELECT a FROM e) SELECT z FROM u", "WITH RECURSIVE e(a, b) AS (SELECT 1, 2 UNION ALL SELECT a, b FROM e) SELECT * FROM e", "WITH RECURSIVE u(x) AS (SELECT 1 UNION ALL SELECT x / 0 FROM u) SELECT * FROM u"} {
		if got := shownRun(db, text); !strings.HasPrefix(got, "error") {
			t.Errorf("P1: Run(%.80q) = %s, want an error", text, got)
		}
		wantAnswer(t, db, "SELECT * FROM e", e)
		wantAnswer(t, db, "SELECT * FROM t", s)
		wantErrno(t, db, api.ErrName, "SELECT * FROM u")
	}
}
