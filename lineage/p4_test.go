package lineage

import (
	"reflect"
	"slices"
	"strings"
	"testing"

	"lineage/api"
	"lineage/reading"
)

func wantPlain(t *testing.T, text, plain string) {
	t.Helper()
	if got := printOf(text); got != (printed{plain, api.OK, 0}) {
		t.Errorf("P4: Print(%q) = %v, want %q", text, got, plain)
	}
}

func TestP4Examples(t *testing.T) {
	wantPlain(t, "select  ((A.x+1)) * 2 as Y from T as a;", "SELECT (a.x + 1) * 2 AS y FROM t AS a")
	wantFault(t, "SELECT 1 = 1 = 1", api.ErrText, 13)
	wantFault(t, "", api.ErrText, 0)
}

func TestP4Sentences(t *testing.T) {
	for _, c := range [][2]string{
		{"create\ttable E ( A int,b TEXT , c Bool ) ;", "CREATE TABLE e(a INT, b TEXT, c BOOL)"},
		{"insert into E values(1,'A'),( null , TRUE ),(-1)", "INSERT INTO e VALUES (1, 'A'), (NULL, TRUE), (-1)"},
		{"select*from A,b as X join C on a.b=c.d join d on true,e where not false", "SELECT * FROM a, b AS x JOIN c ON a.b = c.d JOIN d ON TRUE, e WHERE NOT FALSE"},
		{"with P(a,B)as(select 1,2)select*from p", "WITH p(a, b) AS (SELECT 1, 2) SELECT * FROM p"},
		{"with recursive p (a) as (select 1 union select a from p),q (b) as (select 1 union all select 2) select 1 union select 2 union all select 3;", "WITH RECURSIVE p(a) AS (SELECT 1 UNION SELECT a FROM p), q(b) AS (SELECT 1 UNION ALL SELECT 2) SELECT 1 UNION SELECT 2 UNION ALL SELECT 3"},
		{"select 1as A,(2)as B_ from c where(a)", "SELECT 1 AS a, 2 AS b_ FROM c WHERE a"},
		{"SELECT a . b, C .D", "SELECT a.b, c.d"},
		{"SELECT 000, 00100, 09223372036854775807", "SELECT 0, 100, 9223372036854775807"},
		{"SELECT 'It''s', '''', '', ' A  b ', 'SELECT'", "SELECT 'It''s', '''', '', ' A  b ', 'SELECT'"},
		{"SELECT '(', ')', ',;' || '\x00\xff\n'", "SELECT '(', ')', ',;' || '\x00\xff\n'"},
	} {
		wantPlain(t, c[0], c[1])
		wantPlain(t, c[1], c[1])
	}
}

// Only those ( and ) stay without which the grammar would read it otherwise.
func TestP4Brackets(t *testing.T) {
	for _, c := range [][2]string{
		{"(((1)))", "1"}, {"((a.b))", "a.b"}, {"(NULL)", "NULL"},
		{"(a OR b) OR (c)", "a OR b OR c"}, {"a OR (b OR c)", "a OR (b OR c)"},
		{"(a AND b) AND c", "a AND b AND c"}, {"a AND (b AND c)", "a AND (b AND c)"},
		{"(a AND b) OR (c AND d)", "a AND b OR c AND d"}, {"(a OR b) AND (c OR d)", "(a OR b) AND (c OR d)"},
		{"a AND (NOT b)", "a AND NOT b"}, {"(NOT a) OR b", "NOT a OR b"}, {"NOT (NOT (a))", "NOT NOT a"},
		{"NOT (a OR b)", "NOT (a OR b)"}, {"NOT (a AND b)", "NOT (a AND b)"}, {"NOT (a < b)", "NOT a < b"}, {"NOT (a IS NULL)", "NOT a IS NULL"},
		{"(NOT a) < b", "(NOT a) < b"}, {"a < (NOT b)", "a < (NOT b)"}, {"(NOT a) IS NULL", "(NOT a) IS NULL"}, {"a + (NOT b)", "a + (NOT b)"}, {"-(NOT a)", "-(NOT a)"},
		{"(a = b) <> c", "(a = b) <> c"}, {"a = (b <> c)", "a = (b <> c)"}, {"(a = b) IS NULL", "(a = b) IS NULL"}, {"(a IS NULL) IS NOT NULL", "(a IS NULL) IS NOT NULL"}, {"(a IS NULL) = (b IS NULL)", "(a IS NULL) = (b IS NULL)"},
		{"(a + b) = (c * d)", "a + b = c * d"}, {"(a + b) IS NOT NULL", "a + b IS NOT NULL"}, {"(a = b) + c", "(a = b) + c"}, {"(a IS NULL) || b", "(a IS NULL) || b"}, {"(a = b) AND (c IS NULL)", "a = b AND c IS NULL"},
		{"(a + b) - c", "a + b - c"}, {"a + (b - c)", "a + (b - c)"}, {"a || (b + c)", "a || (b + c)"}, {"(a || b) + c", "a || b + c"},
		{"a + (b * c)", "a + b * c"}, {"(a + b) * c", "(a + b) * c"}, {"a % (b || c)", "a % (b || c)"},
		{"(a * b) / c", "a * b / c"}, {"a * (b / c)", "a * (b / c)"}, {"a % (b % c)", "a % (b % c)"},
		{"-(a)", "-a"}, {"-(-(a))", "--a"}, {"(-a) * (-b)", "-a * -b"}, {"-(a * b)", "-(a * b)"}, {"-(a + b)", "-(a + b)"}, {"a-(-b)", "a - -b"}, {"a - -(b - c)", "a - -(b - c)"}, {"-(a IS NULL)", "-(a IS NULL)"}, {"a--b", "a - -b"},
	} {
		for _, around := range [][2]string{{"SELECT ", ""}, {"SELECT x WHERE ", ""}, {"SELECT x, ", " AS y"}, {"INSERT INTO e VALUES (", ", 1)"}, {"SELECT x FROM s JOIN t ON ", ", u"}} {
			wantPlain(t, around[0]+c[0]+around[1], around[0]+c[1]+around[1])
			wantPlain(t, around[0]+c[1]+around[1], around[0]+c[1]+around[1])
			wantPlain(t, around[0]+"("+c[0]+")"+around[1], around[0]+c[1]+around[1])
		}
	}
}

func TestP4DeepAndLong(t *testing.T) {
	wantPlain(t, "SELECT "+times(30, "(")+"1"+times(30, ")"), "SELECT 1")
	wantPlain(t, "SELECT "+times(15, "NOT(")+"1"+times(15, ")"), "SELECT "+times(15, "NOT ")+"1")
	wantPlain(t, "SELECT "+times(30, "- ")+"1", "SELECT "+times(30, "-")+"1")
	wantPlain(t, "SELECT 1"+times(1996, "+1"), "SELECT 1"+times(1996, " + 1"))
	wantPlain(t, "SELECT a"+times(30, "=(a")+times(30, ")"), "SELECT a"+times(29, " = (a")+" = a"+times(29, ")"))
}

// bare leaves of a text's words those that its Print must have, too: without
// ( and ), and without the ; at the end.
func bare(tokens []token) []string {
	var left []string
	for _, word := range tokens {
		switch word.class {
		case "(", ")", ";", "end":
		case "name":
			left = append(left, strings.ToLower(word.text))
		case "number":
			digits := strings.TrimLeft(word.text, "0")
			if digits == "" {
				digits = "0"
			}
			left = append(left, digits)
		case "string":
			left = append(left, word.text)
		default:
			left = append(left, word.class)
		}
	}
	return left
}

// spaced lays the words of a plain text side by side, as P4 says.
func spaced(tokens []token) string {
	var text strings.Builder
	behind := token{class: "("}
	ahead := token{}
	for _, word := range tokens[:len(tokens)-1] {
		sign := behind.class == "-" && !slices.Contains([]string{"name", "number", "string", ")", "TRUE", "FALSE", "NULL"}, ahead.class)
		columns := word.class == "(" && behind.class == "name"
		if behind.class != "(" && behind.class != "." && !sign && !columns && !slices.Contains([]string{")", ",", "."}, word.class) {
			text.WriteByte(' ')
		}
		text.WriteString(word.text)
		ahead, behind = behind, word
	}
	return text.String()
}

// fewer are the texts that come of one by leaving out a ( and its ).
func fewer(text string) []string {
	var texts []string
	var open []token
	for _, word := range tokensOf(text) {
		switch word.class {
		case "(":
			open = append(open, word)
		case ")":
			from := open[len(open)-1].at
			open = open[:len(open)-1]
			texts = append(texts, text[:from]+" "+text[from+1:word.at]+" "+text[word.at+1:])
		}
	}
	return texts
}

func TestP4AtRandom(t *testing.T) {
	m := newMaker(5)
	seen := 0
	for range 5000 {
		text := m.text(m.sentence())
		plain, errno, _ := Print(text)
		if errno != api.OK {
			continue
		}
		seen++
		tokens := tokensOf(plain)
		if got, want := bare(tokens), bare(tokensOf(text)); !slices.Equal(got, want) {
			t.Errorf("P4: Print(%q) = %q has the words %q, want %q", text, plain, got, want)
		}
		if want := spaced(tokens); plain != want {
			t.Errorf("P4: Print(%q) = %q, by its words %q", text, plain, want)
		}
		if len(plain) > api.MaxText {
			continue
		}
		wantPlain(t, plain, plain)
		wantSameReading(t, text, plain)
	}
	if seen < 2000 {
		t.Errorf("only %d of the texts can be read", seen)
	}
}

func wantSameReading(t *testing.T, text, plain string) {
	t.Helper()
	sentence, _, _ := reading.Read(text)
	if again, _, _ := reading.Read(plain); !reflect.DeepEqual(again, sentence) {
		t.Errorf("P4: Print(%q) = %q is read otherwise", text, plain)
	}
	for _, short := range fewer(plain) {
		if other, errno, _ := reading.Read(short); errno == api.OK && reflect.DeepEqual(other, sentence) {
			t.Errorf("P4: Print(%q) = %q, but %q would do", text, plain, short)
		}
	}
}
