package lineage

import (
	"testing"

	"lineage/api"
)

func TestP6Create(t *testing.T) {
	db := New()
	wantAnswer(t, db, "create table E (A int, b Text, C bool);", "0")
	wantAnswer(t, db, "SELECT * FROM e", "a:1,b:2,c:3")
	wantAnswer(t, db, "CREATE TABLE f(a INT)", "0")
	wantAnswer(t, db, "INSERT INTO f VALUES (1)", "1")
	wantAnswer(t, db, "SELECT * FROM e", "a:1,b:2,c:3")
}

func TestP6Insert(t *testing.T) {
	db := opened(t)
	wantAnswer(t, db, "INSERT INTO E VALUES (1 + 1, -(2)), (NULL, 7 / 2)", "2")
	wantAnswer(t, db, "INSERT INTO e VALUES (1, 2)", "1")
	wantAnswer(t, db, "SELECT * FROM e", "a:1,b:1|null,3|1,2|1,2|2,-2|2,3|3,1")
	wantAnswer(t, db, "INSERT INTO t VALUES (NULL, 'it''s' || '', NOT TRUE), (0, '', 1 < 2)", "2")
	wantAnswer(t, db, "SELECT * FROM t WHERE s = 'it''s' OR n = 0", "n:1,s:2,f:3|null,'it's',false|0,'',true")
}

func TestP6NothingBesideErrValue(t *testing.T) {
	db := opened(t)
	wantErrno(t, db, api.ErrValue, "INSERT INTO e VALUES (1 / 0, 2)", "INSERT INTO e VALUES (8, 8), (8, 8), (8, 9223372036854775807 + 1)", "INSERT INTO e VALUES (8, 1 % 0), (8, 8)", "INSERT INTO t VALUES (1, '"+times(250, "x")+"' || 'y', TRUE)", "INSERT INTO t VALUES (1, 'a', FALSE AND 1 / 0 = 1)", "INSERT INTO e VALUES "+repeated(300, "(8, 8)")+", (1 / 0, 1)")
	wantAnswer(t, db, "SELECT * FROM e", "a:1,b:1|1,2|2,3|3,1")
	wantAnswer(t, db, "SELECT n FROM t", "n:1|null|1|2")
}

func TestP6MaxRows(t *testing.T) {
	db := New()
	filled(t, db, "full", api.MaxRows)
	filled(t, db, "most", api.MaxRows-2)
	for range 2 {
		wantErrno(t, db, api.ErrMany, "INSERT INTO full VALUES (1)", "INSERT INTO full VALUES (1), (2)", "INSERT INTO most VALUES (1), (2), (3)")
		wantErrno(t, db, api.ErrValue, "INSERT INTO full VALUES (1 / 0)", "INSERT INTO most VALUES (1), (2), (3), (1 % 0)")
	}
	wantAnswer(t, db, "SELECT n FROM most WHERE n < 2", "n:1|1")
	wantAnswer(t, db, "INSERT INTO most VALUES (0), (0)", "2")
	wantAnswer(t, db, "SELECT n FROM most WHERE n < 2", "n:1|0|0|1")
	wantErrno(t, db, api.ErrMany, "INSERT INTO most VALUES (0)")
	filled(t, db, "other", 5)
}

// More rows than fit may come in one text, to an empty table too.
func TestP6MaxRowsInOneText(t *testing.T) {
	db := New()
	wantAnswer(t, db, "CREATE TABLE u(a INT)", "0")
	values := "INSERT INTO u VALUES (1)" + times(990, ",(1)")
	if len(values) > api.MaxText {
		t.Fatal("the text is too long")
	}
	wantAnswer(t, db, values, "991")
	wantErrno(t, db, api.ErrMany, values)
	wantAnswer(t, db, "INSERT INTO u VALUES (1)"+times(8, ",(1)"), "9")
	wantErrno(t, db, api.ErrMany, "INSERT INTO u VALUES (1)")
}
