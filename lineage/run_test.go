package lineage

import (
	"fmt"
	"strings"
	"testing"

	"lineage/api"
)

// shown writes values as the tests of Run want them.
func shown(value api.Value) string {
	switch value {
	case api.Value{}:
		return "null"
	case api.Value{Kind: api.Int, Int: value.Int}:
		return fmt.Sprint(value.Int)
	case api.Value{Kind: api.Text, Text: value.Text}:
		return "'" + value.Text + "'"
	case api.Value{Kind: api.Bool, Bool: value.Bool}:
		return fmt.Sprint(value.Bool)
	}
	return fmt.Sprintf("no value: %#v", value)
}

// shownAnswer writes a query's answer as its columns and their kinds, then its
// rows, with | between; another one as its count.
func shownAnswer(answer api.Answer) string {
	if answer.Columns == nil && answer.Kinds == nil && answer.Rows == nil {
		return fmt.Sprint(answer.Count)
	}
	if answer.Count != 0 {
		return fmt.Sprintf("a count in %v", answer)
	}
	var columns []string
	for i, name := range answer.Columns {
		columns = append(columns, name+":"+fmt.Sprint(answer.Kinds[i]))
	}
	if len(answer.Kinds) != len(columns) {
		return fmt.Sprintf("too many kinds in %v", answer)
	}
	lines := []string{strings.Join(columns, ",")}
	for _, row := range answer.Rows {
		var line []string
		for i, value := range row {
			if value.Kind != api.Null && value.Kind != answer.Kinds[i] {
				return fmt.Sprintf("%v of another kind in %v", value, answer)
			}
			line = append(line, shown(value))
		}
		lines = append(lines, strings.Join(line, ","))
	}
	return strings.Join(lines, "|")
}

// shownRun runs a text and writes what comes of it.
func shownRun(db *DB, text string) string {
	answer, errno, place := db.Run(text)
	if errno == api.OK && place == 0 {
		return shownAnswer(answer)
	}
	if answer.Columns != nil || answer.Kinds != nil || answer.Rows != nil || answer.Count != 0 {
		return fmt.Sprintf("%v beside the error %d", answer, errno)
	}
	if place != 0 {
		return fmt.Sprintf("error %d at %d", errno, place)
	}
	return fmt.Sprintf("error %d", errno)
}

func wantAnswer(t *testing.T, db *DB, text, want string) {
	t.Helper()
	if got := shownRun(db, text); got != want {
		t.Errorf("Run(%.120q) = %.400s, want %.400s", text, got, want)
	}
}

// wantValue asks for the value of an expr alone.
func wantValue(t *testing.T, db *DB, expr, want string) {
	t.Helper()
	answer, errno, _ := db.Run("SELECT " + expr)
	if errno != api.OK || len(answer.Rows) != 1 || len(answer.Rows[0]) != 1 {
		t.Errorf("SELECT %s: %v, %d, want %s", expr, answer, errno, want)
		return
	}
	if got := shown(answer.Rows[0][0]); got != want {
		t.Errorf("SELECT %s: %s, want %s", expr, got, want)
	}
}

func wantErrno(t *testing.T, db *DB, errno api.Errno, texts ...string) {
	t.Helper()
	for _, text := range texts {
		wantAnswer(t, db, text, fmt.Sprintf("error %d", errno))
	}
}

// wantRows asks how many rows come; of more than MaxRows ErrMany is the answer.
func wantRows(t *testing.T, db *DB, text string, rows int) {
	t.Helper()
	answer, errno, _ := db.Run(text)
	if rows > api.MaxRows && errno != api.ErrMany || rows <= api.MaxRows && len(answer.Rows) != rows {
		t.Errorf("Run(%q) has %d rows, %d, want %d", text, len(answer.Rows), errno, rows)
	}
}

// ran is a database that ran these texts, whatever came of them.
func ran(texts ...string) *DB {
	db := New()
	for _, text := range texts {
		shownRun(db, text)
	}
	return db
}

// filled makes a table with one column n, and the numbers from 1 to rows in it.
func filled(t *testing.T, db *DB, table string, rows int) {
	t.Helper()
	wantAnswer(t, db, "CREATE TABLE "+table+"(n INT)", "0")
	for from := 1; from <= rows; from += 400 {
		var list []string
		for n := from; n <= min(from+399, rows); n++ {
			list = append(list, fmt.Sprintf("(%d)", n))
		}
		wantAnswer(t, db, "INSERT INTO "+table+" VALUES "+strings.Join(list, ","), fmt.Sprint(len(list)))
	}
}

// opened is a database with the tables e and t.
func opened(t *testing.T) *DB {
	t.Helper()
	db := New()
	wantAnswer(t, db, "CREATE TABLE e(a INT, b INT)", "0")
	wantAnswer(t, db, "INSERT INTO e VALUES (1, 2), (2, 3), (3, 1)", "3")
	wantAnswer(t, db, "CREATE TABLE t(n INT, s TEXT, f BOOL)", "0")
	wantAnswer(t, db, "INSERT INTO t VALUES (1, 'one', TRUE), (NULL, 'b', FALSE), (2, NULL, NULL)", "3")
	return db
}

// repeated writes an element many times, with commas between.
func repeated(n int, element string) string {
	return strings.TrimSuffix(times(n, element+", "), ", ")
}

// columnList writes columns c0, c1 and so on.
func columnList(n int) string {
	var list []string
	for i := range n {
		list = append(list, fmt.Sprintf("c%d INT", i))
	}
	return strings.Join(list, ", ")
}
