package reading

import (
	"reflect"
	"testing"

	"lineage/api"
	"lineage/tree"
	"lineage/words"
)

func number(n int) tree.Expr {
	return tree.Literal{Value: api.Value{Kind: api.Int, Int: n}}
}

func column(name string) tree.Expr {
	return tree.Reference{Column: name}
}

func binary(left tree.Expr, op words.Kind, right tree.Expr) tree.Expr {
	return tree.Binary{Op: op, Left: left, Right: right}
}

func not(operand tree.Expr) tree.Expr {
	return tree.Prefixed{Op: words.Not, Operand: operand}
}

func minus(operand tree.Expr) tree.Expr {
	return tree.Prefixed{Op: words.Minus, Operand: operand}
}

func TestExprs(t *testing.T) {
	a, b, c := column("a"), column("b"), column("c")
	for _, x := range []struct {
		text string
		want tree.Expr
	}{
		{"NULL", tree.Literal{}},
		{"true", tree.Literal{Value: api.Value{Kind: api.Bool, Bool: true}}},
		{"FALSE", tree.Literal{Value: api.Value{Kind: api.Bool}}},
		{"'It''s'", tree.Literal{Value: api.Value{Kind: api.Text, Text: "It's"}}},
		{"007", number(7)},
		{"A . B", tree.Reference{Source: "a", Column: "b"}},
		{"((a))", a},
		{"1 - 2 - 3", binary(binary(number(1), words.Minus, number(2)), words.Minus, number(3))},
		{"1 - (2 - 3)", binary(number(1), words.Minus, binary(number(2), words.Minus, number(3)))},
		{"a + b * c", binary(a, words.Plus, binary(b, words.Star, c))},
		{"a * b || c", binary(binary(a, words.Star, b), words.Bars, c)},
		{"a / b % c", binary(binary(a, words.Slash, b), words.Percent, c)},
		{"-a * b", binary(minus(a), words.Star, b)},
		{"--a", minus(minus(a))},
		{"a - -b", binary(a, words.Minus, minus(b))},
		{"a + b <= c", binary(binary(a, words.Plus, b), words.LessEqual, c)},
		{"NOT a <> b", not(binary(a, words.Unequal, b))},
		{"NOT a AND b", binary(not(a), words.And, b)},
		{"a OR b AND c", binary(a, words.Or, binary(b, words.And, c))},
		{"a AND b OR c", binary(binary(a, words.And, b), words.Or, c)},
		{"a AND b AND c", binary(binary(a, words.And, b), words.And, c)},
		{"a OR b OR c", binary(binary(a, words.Or, b), words.Or, c)},
		{"a + b IS NULL", tree.IsNull{Operand: binary(a, words.Plus, b)}},
		{"NOT a IS NOT NULL", not(tree.IsNull{Operand: a, Not: true})},
	} {
		got, errno, place := Read("SELECT " + x.text)
		want := tree.Query{Body: tree.Body{First: tree.Select{Items: []tree.Item{{Expr: x.want}}}}}
		if errno != api.OK || place != 0 || !reflect.DeepEqual(got, want) {
			t.Errorf("%s: %v, %d, %d, want %v", x.text, got, errno, place, want)
		}
	}
}

func TestSentences(t *testing.T) {
	one := tree.Select{Items: []tree.Item{{Expr: number(1)}}}
	for _, c := range []struct {
		text string
		want tree.Sentence
	}{
		{"CREATE TABLE E (a INT, b TEXT, c BOOL)", tree.Create{Table: "e", Columns: []tree.Column{{Name: "a", Kind: api.Int}, {Name: "b", Kind: api.Text}, {Name: "c", Kind: api.Bool}}}},
		{"INSERT INTO e VALUES (1, 2), (3)", tree.Insert{Table: "e", Rows: [][]tree.Expr{{number(1), number(2)}, {number(3)}}}},
		{"SELECT 1 UNION SELECT 1 UNION ALL SELECT 1;", tree.Query{Body: tree.Body{First: one, Unions: []tree.Union{{Select: one}, {All: true, Select: one}}}}},
		{"WITH p(a, b) AS (SELECT 1), q(c) AS (SELECT 1 UNION SELECT 1) SELECT 1", tree.Query{Parts: []tree.Part{{Name: "p", Columns: []string{"a", "b"}, Body: tree.Body{First: one}}, {Name: "q", Columns: []string{"c"}, Body: tree.Body{First: one, Unions: []tree.Union{{Select: one}}}}}, Body: tree.Body{First: one}}},
		{"WITH RECURSIVE p(a) AS (SELECT 1) SELECT 1", tree.Query{Recursive: true, Parts: []tree.Part{{Name: "p", Columns: []string{"a"}, Body: tree.Body{First: one}}}, Body: tree.Body{First: one}}},
		{"SELECT * FROM a, b AS x JOIN c AS y ON d, e WHERE f", tree.Query{Body: tree.Body{First: tree.Select{Sources: []tree.Source{{Name: "a"}, {Name: "b", As: "x"}, {Name: "c", As: "y", On: column("d")}, {Name: "e"}}, Where: column("f")}}}},
		{"SELECT a AS b, c", tree.Query{Body: tree.Body{First: tree.Select{Items: []tree.Item{{Expr: column("a"), As: "b"}, {Expr: column("c")}}}}}},
	} {
		got, errno, place := Read(c.text)
		if errno != api.OK || place != 0 || !reflect.DeepEqual(got, c.want) {
			t.Errorf("%s: %v, %d, %d, want %v", c.text, got, errno, place, c.want)
		}
	}
}

func TestNothingBesideAFault(t *testing.T) {
	for _, text := range []string{"", "SELECT 1 1", "CREATE TABLE e(a INT", "SELECT '", "SELECT ((((((((((((((((((((((((((((((("} {
		if got, errno, _ := Read(text); got != nil || errno == api.OK {
			t.Errorf("%q: %v, %d", text, got, errno)
		}
	}
}
