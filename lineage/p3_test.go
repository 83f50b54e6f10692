package lineage

import (
	"strings"
	"testing"

	"lineage/api"
)

func times(n int, s string) string { return strings.Repeat(s, n) }

func wantFault(t *testing.T, text string, errno api.Errno, place int) {
	t.Helper()
	if got := printOf(text); got != (printed{"", errno, place}) {
		t.Errorf("P3: Print(%.90q) = %v, want %v", text, got, printed{"", errno, place})
	}
}

func wantRead(t *testing.T, text string) {
	t.Helper()
	if got := printOf(text); got.errno != api.OK || got.place != 0 || got.plain == "" {
		t.Errorf("P3: Print(%.90q) = %v", text, got)
	}
}

func TestP3MaxText(t *testing.T) {
	for _, ahead := range []string{"SELECT 1", "SELECT 1;", "SELECT 'a'"} {
		wantRead(t, ahead+times(api.MaxText-len(ahead), " "))
		wantRead(t, times(api.MaxText-len(ahead), "\n")+ahead)
		wantFault(t, ahead+times(api.MaxText-len(ahead)+1, " "), api.ErrText, 0)
	}
	wantRead(t, "SELECT '"+times(api.MaxText-9, "x")+"'")
	wantFault(t, "SELECT '"+times(api.MaxText-8, "x")+"'", api.ErrText, 0)
	wantFault(t, times(api.MaxText, " "), api.ErrText, api.MaxText)
	wantFault(t, times(api.MaxText+1, "("), api.ErrText, 0)
	wantFault(t, "SELECT "+times(api.MaxText, "("), api.ErrText, 0)
}

func TestP3MaxName(t *testing.T) {
	name, over := times(api.MaxName, "n"), times(api.MaxName+1, "n")
	for _, c := range [][2]string{{"SELECT ", ""}, {"SELECT a.", ""}, {"SELECT ", ".a"}, {"SELECT 1 AS ", ""}, {"SELECT 1 FROM ", " AS b"}, {"SELECT 1 FROM a AS ", ""}, {"CREATE TABLE ", "(a INT)"}, {"CREATE TABLE e(", " INT)"}, {"INSERT INTO ", " VALUES (1)"}, {"WITH ", "(a) AS (SELECT 1) SELECT 1"}, {"WITH p(", ") AS (SELECT 1) SELECT 1"}, {"WITH p(a, ", ") AS (SELECT 1) SELECT 1"}} {
		wantRead(t, c[0]+name+c[1])
		wantFault(t, c[0]+over+c[1], api.ErrText, len(c[0]))
	}
}

func TestP3GreatestNumber(t *testing.T) {
	for _, ahead := range []string{"SELECT ", "SELECT -", "SELECT 1 + ", "INSERT INTO e VALUES (1), (", "SELECT a WHERE "} {
		behind := ""
		if strings.HasSuffix(ahead, "(") {
			behind = ")"
		}
		wantRead(t, ahead+"9223372036854775807"+behind)
		wantRead(t, ahead+times(50, "0")+"9223372036854775807"+behind)
		wantFault(t, ahead+"9223372036854775808"+behind, api.ErrText, len(ahead))
		wantFault(t, ahead+"18446744073709551617"+behind, api.ErrText, len(ahead))
		wantFault(t, ahead+"0"+times(30, "1")+behind, api.ErrText, len(ahead))
	}
}

func TestP3Strings(t *testing.T) {
	for _, s := range []string{"''", "''''", "'a''b'", "' '", "'--;'", "'\x00\xff\r\n'", "'select'"} {
		wantRead(t, "SELECT "+s)
		wantRead(t, "SELECT("+s+")||"+s)
		wantFault(t, "SELECT "+s[:len(s)-1], api.ErrText, 7)
		wantFault(t, "SELECT "+s+"'", api.ErrText, 7)
		wantFault(t, "SELECT "+s+" "+s, api.ErrText, 8+len(s))
	}
	wantFault(t, "SELECT 'a' 'b", api.ErrText, 11)
	wantFault(t, "SELECT a 'b", api.ErrText, 9)
}

func TestP3EndsTooEarly(t *testing.T) {
	for _, whole := range []string{"CREATE TABLE e ( a INT , b TEXT )", "INSERT INTO e VALUES ( 1 , 2 )", "SELECT ( 1 ) + - a . b", "WITH RECURSIVE p ( a ) AS ( SELECT 1"} {
		words := strings.Fields(whole)
		for i := range words {
			text := strings.Join(words[:i], " ")
			if i > 0 && faultOf(text) < 0 {
				continue
			}
			wantFault(t, text, api.ErrText, len(text))
			wantFault(t, text+" \t", api.ErrText, len(text)+2)
		}
	}
	for _, text := range []string{"SELECT 1,", "SELECT 1 AS", "SELECT 1 FROM", "SELECT 1 FROM a,", "SELECT 1 FROM a JOIN b", "SELECT 1 WHERE", "SELECT NOT", "SELECT a AND", "SELECT a IS NOT", "SELECT a =", "SELECT 1 UNION ALL", "WITH p(a) AS (SELECT 1)"} {
		wantFault(t, text, api.ErrText, len(text))
		wantFault(t, text+";", api.ErrText, len(text))
	}
}

func TestP3BlanksAndSemicolon(t *testing.T) {
	for _, text := range []string{"SELECT 1;", ";SELECT 1", "SELECT\t1\r\n;\n ", "SELECT(1)AS a", "SELECT 1AS a", "SELECT'a'AS a", "SELECT-1", "SELECT*FROM a", "select 1union all select 2"} {
		if text[0] == ';' {
			wantFault(t, text, api.ErrText, 0)
			continue
		}
		wantRead(t, text)
	}
	for _, blank := range []string{"\v", "\f", "\x00", "\u00a0", "\u2003", "\ufeff"} {
		wantFault(t, "SELECT"+blank+"1", api.ErrText, 6)
	}
	wantFault(t, "SELECT 1;;", api.ErrText, 9)
	wantFault(t, "SELECT 1; SELECT 1", api.ErrText, 10)
	wantFault(t, "WITH p(a) AS (SELECT 1;) SELECT 1", api.ErrText, 22)
}

func TestP3TheFirstFaultCounts(t *testing.T) {
	wantFault(t, "SELECT 1 1 '", api.ErrText, 9)
	wantFault(t, "SELECT 1 ! 1 1", api.ErrText, 9)
	wantFault(t, "SELECT 1 1 "+times(31, "("), api.ErrText, 9)
	wantFault(t, "SELECT "+times(31, "(")+" !", api.ErrDeep, 37)
	wantFault(t, "SELECT "+times(30, "(")+"!(", api.ErrText, 37)
	wantFault(t, "SELECT "+times(30, "(")+"1(", api.ErrText, 38)
	wantFault(t, "SELECT "+times(30, "(")+"1 NOT 1", api.ErrText, 39)
	wantFault(t, "SELECT "+times(30, "(")+"1 + NOT 1", api.ErrText, 41)
	wantFault(t, "SELECT "+times(31, "("), api.ErrDeep, 37)
	wantFault(t, "SELECT "+times(30, "("), api.ErrText, 37)
}

// Only what stands around an expr counts, and only while it is within.
func TestP3MaxDeep(t *testing.T) {
	full := times(10, "NOT ") + times(10, "(") + times(10, "-") + "1" + times(10, ")")
	for _, c := range [][2]string{{"SELECT ", ""}, {"SELECT 1, ", ", 2"}, {"SELECT 1 FROM a WHERE ", ""}, {"SELECT 1 FROM a JOIN b ON ", ", c"}, {"INSERT INTO e VALUES (1), (", ")"}, {"WITH p(a) AS (SELECT ", ") SELECT 1"}, {"SELECT " + full + " AND ", " OR " + full}, {"SELECT " + full + ", ", ""}} {
		wantRead(t, c[0]+full+c[1])
		wantFault(t, c[0]+"NOT "+full+c[1], api.ErrDeep, len(c[0])+4+40+10+9)
		wantFault(t, c[0]+times(31, "(")+"1"+times(31, ")")+c[1], api.ErrDeep, len(c[0])+30)
		wantFault(t, c[0]+times(31, "NOT ")+"1"+c[1], api.ErrDeep, len(c[0])+120)
		wantFault(t, c[0]+times(31, "- ")+"1"+c[1], api.ErrDeep, len(c[0])+60)
	}
	wantRead(t, "SELECT "+times(300, "(1) + -1 - ")+"1")
	wantRead(t, "SELECT "+times(300, "NOT 1 AND ")+"1")
	wantRead(t, "SELECT "+times(29, "(")+"1 - 1 - (1) - -1"+times(29, ")"))
	wantFault(t, "SELECT "+times(29, "(")+"1 - -(1)"+times(29, ")"), api.ErrDeep, 7+29+5)
}

func TestP3DeepAtRandom(t *testing.T) {
	m := newMaker(3)
	for range 500 {
		text, behind, deepest := "SELECT ", "", 0
		// Behind a - there is only a factor.
		choices := []string{"(", "-", "1 = (", "NOT "}
		for i := range api.MaxDeep + 1 {
			next := choices[m.Intn(len(choices))]
			choices = []string{"(", "-", "1 = (", "NOT "}
			if next == "-" {
				choices = choices[:2]
			}
			deepest = len(text) + strings.Index(next, strings.TrimPrefix(next, "1 = "))
			text += next
			if strings.HasSuffix(next, "(") {
				behind += ")"
			}
			if i == api.MaxDeep-1 {
				wantRead(t, text+"1"+behind)
			}
		}
		wantFault(t, text+"1"+behind, api.ErrDeep, deepest)
	}
}

// What is read, and where a fault is, is what the grammar of the document says.
func TestP3Grammar(t *testing.T) {
	m := newMaker(4)
	read := 0
	for i := range 20000 {
		words := m.sentence()
		if i%3 > 0 {
			words = m.spoil(words)
		}
		text := m.text(words)
		if len(text) > api.MaxText {
			continue
		}
		if at := faultOf(text); at >= 0 {
			wantFault(t, text, api.ErrText, at)
		} else {
			wantRead(t, text)
			read++
		}
	}
	if read < 4000 {
		t.Errorf("only %d of the texts can be read", read)
	}
}
