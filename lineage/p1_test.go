package lineage

import (
	"strings"
	"testing"

	"lineage/api"
)

// wildTexts are texts of all kinds, most of them wrong.
func wildTexts() []string {
	m := newMaker(1)
	texts := []string{"", "\x00", strings.Repeat("(", api.MaxText), strings.Repeat("(", 100000), "SELECT " + strings.Repeat("-", 3993), "SELECT 1" + strings.Repeat("+1", 1996), "SELECT a" + strings.Repeat(" OR a", 798), "SELECT '" + strings.Repeat("''", 1995) + "'", "SELECT" + strings.Repeat(" NOT", 900), "SELECT 1" + strings.Repeat(" UNION SELECT 1", 260)}
	for range 2000 {
		bytes := make([]byte, m.Intn(60))
		m.Read(bytes)
		texts = append(texts, string(bytes), m.text(m.sentence()), m.text(m.spoil(m.sentence())))
	}
	whole := "WITH RECURSIVE p(a) AS (SELECT -1 UNION ALL SELECT a + 1 AS b FROM p JOIN q AS r ON NOT a IS NULL WHERE (a = 'it''s') = TRUE) SELECT * FROM p;"
	for i := range whole {
		texts = append(texts, whole[:i], whole[i:])
	}
	return texts
}

func TestP1EveryCallEnds(t *testing.T) {
	fine := 0
	for _, text := range wildTexts() {
		plain, errno, place := Print(text)
		switch errno {
		case api.OK:
			fine++
			if plain == "" || place != 0 {
				t.Errorf("P1: Print(%.80q) = %q, %d, %d", text, plain, errno, place)
			}
		case api.ErrText, api.ErrDeep:
			if plain != "" || place < 0 || place > min(len(text), api.MaxText) {
				t.Errorf("P1: Print(%.80q) = %q, %d, %d", text, plain, errno, place)
			}
		default:
			t.Errorf("P1: Print(%.80q) answers the error %d", text, errno)
		}
	}
	if fine < 1000 {
		t.Errorf("only %d of the texts can be read", fine)
	}
}

func TestP1RunEnds(t *testing.T) {
	db := New()
	for _, text := range wildTexts() {
		answer, errno, _ := db.Run(text)
		if errno != api.OK && (answer.Count != 0 || len(answer.Columns) != 0 || len(answer.Kinds) != 0 || len(answer.Rows) != 0) {
			t.Errorf("P1: Run(%.80q) = %v beside the error %d", text, answer, errno)
		}
	}
}
