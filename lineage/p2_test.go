package lineage

import (
	"fmt"
	"slices"
	"strings"
	"sync"
	"testing"
	"unsafe"

	"lineage/api"
)

type printed struct {
	plain string
	errno api.Errno
	place int
}

func printOf(text string) printed {
	plain, errno, place := Print(text)
	return printed{plain, errno, place}
}

func TestP2PrintHangsOnItsTextAlone(t *testing.T) {
	texts := wildTexts()
	first := make([]printed, len(texts))
	for i, text := range texts {
		first[i] = printOf(text)
	}
	var group sync.WaitGroup
	for range 4 {
		group.Go(func() {
			for i := range texts {
				i = len(texts) - 1 - i
				if again := printOf(texts[i]); again != first[i] {
					t.Errorf("P2: Print(%.80q) = %v, ahead of that %v", texts[i], again, first[i])
				}
			}
		})
	}
	group.Wait()
}

// An answer that is the text itself, letter by letter, is new memory too.
func TestP2NewMemory(t *testing.T) {
	for _, text := range []string{"SELECT 1", "SELECT 'a'", "SELECT a", "CREATE TABLE e(a INT)"} {
		text = strings.Clone(text)
		plain, _, _ := Print(text)
		if plain != text {
			t.Errorf("Print(%q) = %q", text, plain)
		}
		if unsafe.StringData(plain) == unsafe.StringData(text) {
			t.Errorf("P2: Print(%q) answers the memory of its argument", text)
		}
	}
}

// Databases that ran the same texts answer alike, side by side too.
func TestP2RunHangsOnTheTextsAlone(t *testing.T) {
	q := newQueryMaker(12)
	var texts, first []string
	db := New()
	for range 1000 {
		text := q.anyText()
		if strings.HasPrefix(text, "INSERT") || strings.HasPrefix(text, "CREATE") {
			q.model.run(text)
		}
		texts = append(texts, text)
		first = append(first, shownRun(db, text))
	}
	var group sync.WaitGroup
	for range 4 {
		group.Go(func() {
			other := New()
			for i, text := range texts {
				if again := shownRun(other, text); again != first[i] {
					t.Errorf("P2: Run(%.80q) = %.300s, ahead of that %.300s", text, again, first[i])
				}
			}
		})
	}
	group.Wait()
}

// Calls at the same time come one behind the other: none is lost.
func TestP2CallsAtTheSameTime(t *testing.T) {
	db := opened(t)
	var group sync.WaitGroup
	for caller := range 8 {
		group.Go(func() {
			for i := range 300 {
				wantAnswer(t, db, fmt.Sprintf("CREATE TABLE t_%d_%d(x INT)", caller, i), "0")
			}
			for range 20 {
				wantAnswer(t, db, "INSERT INTO e VALUES (9, 9), (9, 9)", "2")
				if answer, errno, _ := db.Run("SELECT a FROM e WHERE a = 9"); errno != api.OK || len(answer.Rows)%2 != 0 {
					t.Errorf("P2: %d rows, %d", len(answer.Rows), errno)
				}
			}
		})
	}
	group.Wait()
	for caller := range 8 {
		for i := range 300 {
			wantAnswer(t, db, fmt.Sprintf("SELECT * FROM t_%d_%d", caller, i), "x:1")
		}
	}
	answer, errno, _ := db.Run("SELECT * FROM e")
	if errno != api.OK || len(answer.Rows) != 3+8*20*2 {
		t.Errorf("P2: %d rows, %d", len(answer.Rows), errno)
	}
}

// soil writes into all lists of an answer, and into their spare room.
func soil(answer api.Answer) {
	mark := api.Value{Kind: 9, Int: 9, Text: "soiled", Bool: true}
	for _, row := range answer.Rows[:cap(answer.Rows)] {
		for i := range row[:cap(row)] {
			row[:cap(row)][i] = mark
		}
	}
	for i := range answer.Rows[:cap(answer.Rows)] {
		answer.Rows[:cap(answer.Rows)][i] = []api.Value{mark}
	}
	for i := range answer.Columns[:cap(answer.Columns)] {
		answer.Columns[:cap(answer.Columns)][i] = "soiled"
	}
	for i := range answer.Kinds[:cap(answer.Kinds)] {
		answer.Kinds[:cap(answer.Kinds)][i] = 9
	}
}

func TestP2AnswersAreTheCallers(t *testing.T) {
	db := opened(t)
	for _, text := range []string{"SELECT * FROM e", "SELECT * FROM t", "SELECT n, s FROM t UNION SELECT n, s FROM t", "SELECT n FROM t UNION ALL SELECT n FROM t", "SELECT 'a' AS x, 1 FROM e, t", "SELECT x.s, y.s FROM t AS x, t AS y UNION SELECT s, s FROM t UNION ALL SELECT NULL || '', 'x'", "WITH e(x) AS (SELECT 1 UNION ALL SELECT 1) SELECT * FROM e UNION ALL SELECT x FROM e", "WITH p(x, y) AS (SELECT * FROM e) SELECT * FROM p", around("n, s", "1, 'a'", "UNION", "n + 1, s || 'a' FROM r WHERE n < 9"), around("a, b", "a, b FROM e", "UNION ALL", "b, r.a FROM r WHERE r.a < b")} {
		want := shownRun(db, text)
		one, _, _ := db.Run(text)
		other, _, _ := db.Run(text)
		soil(one)
		if got := shownAnswer(other); got != want {
			t.Errorf("P2: Run(%q) = %s behind a written answer, want %s", text, got, want)
		}
		soil(other)
		wantAnswer(t, db, text, want)
	}
}

// No two rows of an answer share room, behind their ends neither.
func TestP2ListsShareNoRoom(t *testing.T) {
	db := opened(t)
	for _, text := range []string{"SELECT 1, 2 FROM e, t", "SELECT * FROM e UNION ALL SELECT * FROM e", "SELECT s, n, f FROM t UNION SELECT s, n, f FROM t", "SELECT a FROM e", "WITH p(x, y) AS (SELECT 1, 2 UNION ALL SELECT 1, 2) SELECT * FROM p UNION ALL SELECT * FROM p", around("n, m", "1, 2", "UNION ALL", "n + 1, m FROM r WHERE n < 9"), around("n, m", "1, 2", "UNION", "n + 1, m FROM r, e WHERE n < 9")} {
		answer, _, _ := db.Run(text)
		want := shownAnswer(answer)
		for i, row := range answer.Rows {
			before := slices.Clone(row)
			for k := range row[:cap(row)] {
				row[:cap(row)][k] = api.Value{Kind: api.Int, Int: 99}
			}
			copy(row, before)
			if got := shownAnswer(answer); got != want {
				t.Fatalf("P2: Run(%q): behind row %d lies another list: %s", text, i, got)
			}
			row[0] = api.Value{Kind: answer.Kinds[0]}
			answer.Rows[i] = slices.Clone(before)
			if got := shownAnswer(answer); got != want {
				t.Fatalf("P2: Run(%q): row %d is another row, too: %s", text, i, got)
			}
		}
	}
}

// What is kept is no part of the text that was handed in.
func TestP2NothingOfTheTextIsKept(t *testing.T) {
	db := New()
	bytes := []byte("CREATE TABLE name(column INT, other TEXT)")
	db.Run(unsafe.String(&bytes[0], len(bytes)))
	clear(bytes)
	bytes = []byte("INSERT INTO name VALUES (1, 'kept')")
	db.Run(unsafe.String(&bytes[0], len(bytes)))
	clear(bytes)
	wantAnswer(t, db, "SELECT * FROM name", "column:1,other:2|1,'kept'")
	for text, want := range map[string]string{
		"SELECT column AS alias, 'text' FROM name":                                                                          "alias:1,:2|1,'text'",
		"WITH part(first, second) AS (SELECT 'text', other FROM name) SELECT * FROM part":                                   "first:2,second:2|'text','kept'",
		"WITH RECURSIVE part(first) AS (SELECT 'text' UNION SELECT other || 'more' FROM name, part) SELECT first FROM part": "first:2|'keptmore'|'text'",
	} {
		bytes = []byte(text)
		answer, _, _ := db.Run(unsafe.String(&bytes[0], len(bytes)))
		clear(bytes)
		if got := shownAnswer(answer); got != want {
			t.Errorf("P2: the answer has memory of its text: %s, want %s", got, want)
		}
	}
}
