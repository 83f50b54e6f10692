package words

import (
	"strings"
	"testing"

	"lineage/api"
)

// cut cuts a text into its words, up to and with the last one or the first that is none.
func cut(text string) []Word {
	var all []Word
	from := 0
	for {
		word := Next(text, from)
		all = append(all, word)
		if word.Kind == End || word.Kind == None {
			return all
		}
		from = word.Behind
	}
}

func TestKindsOfWords(t *testing.T) {
	for _, c := range []struct {
		text  string
		kinds []Kind
	}{
		{"", []Kind{End}},
		{" \t\r\n", []Kind{End}},
		{"( ) , . ; * = <> < <= > >= + - / % ||", []Kind{Open, Close, Comma, Dot, Semicolon, Star, Equal, Unequal, Less, LessEqual, Greater, GreaterEqual, Plus, Minus, Slash, Percent, Bars, End}},
		{"<=>=<>><=<>", []Kind{LessEqual, GreaterEqual, Unequal, Greater, LessEqual, Unequal, End}},
		{"< = > = < >", []Kind{Less, Equal, Greater, Equal, Less, Greater, End}},
		{"||||", []Kind{Bars, Bars, End}},
		{"|||", []Kind{Bars, None}},
		{"|", []Kind{None}},
		{"--", []Kind{Minus, Minus, End}},
		{"all and as bool create false from insert int into is join not", []Kind{All, And, As, Bool, Create, False, From, Insert, Int, Into, Is, Join, Not, End}},
		{"null on or recursive select table text true union values where with", []Kind{Null, On, Or, Recursive, Select, Table, Text, True, Union, Values, Where, With, End}},
		{"ALL Recursive wHeRe", []Kind{All, Recursive, Where, End}},
		{"selects _select select_ select1 1select", []Kind{Name, Name, Name, Name, Number, Select, End}},
		{"a1b2 _ _9 1a", []Kind{Name, Name, Name, Number, Name, End}},
		{"'a'b'c'1", []Kind{String, Name, String, Number, End}},
		{"1 ! 2", []Kind{Number, None}},
		{"\v", []Kind{None}},
		{"\f", []Kind{None}},
		{"\u00a0", []Kind{None}},
		{"\u212aey", []Kind{None}},
		{"a\u00e9", []Kind{Name, None}},
	} {
		got := cut(c.text)
		if len(got) != len(c.kinds) {
			t.Errorf("%q: %v, want %v", c.text, got, c.kinds)
			continue
		}
		for i, kind := range c.kinds {
			if got[i].Kind != kind {
				t.Errorf("%q: word %d is %v, want kind %d", c.text, i, got[i], kind)
			}
		}
	}
}

func TestWordsWhole(t *testing.T) {
	longest := strings.Repeat("N", api.MaxName)
	for _, c := range []struct {
		text string
		want Word
	}{
		{"  A_b9 ", Word{Kind: Name, At: 2, Behind: 6, Text: "a_b9"}},
		{longest, Word{Kind: Name, Behind: api.MaxName, Text: strings.ToLower(longest)}},
		{" " + longest + "1", Word{Kind: None, At: 1, Behind: 1}},
		{"0", Word{Kind: Number, Behind: 1}},
		{"000", Word{Kind: Number, Behind: 3}},
		{"9223372036854775807", Word{Kind: Number, Behind: 19, Number: 9223372036854775807}},
		{"00009223372036854775807", Word{Kind: Number, Behind: 23, Number: 9223372036854775807}},
		{"9223372036854775808", Word{Kind: None}},
		{"99999999999999999999999", Word{Kind: None}},
		{"''", Word{Kind: String, Behind: 2}},
		{"''''", Word{Kind: String, Behind: 4, Text: "'"}},
		{"'it''s'", Word{Kind: String, Behind: 7, Text: "it's"}},
		{"'A\n\x00\xff\"'", Word{Kind: String, Behind: 7, Text: "A\n\x00\xff\""}},
		{"'", Word{Kind: None}},
		{"'a", Word{Kind: None}},
		{"'a''", Word{Kind: None}},
		{"'''", Word{Kind: None}},
		{"  ", Word{Kind: End, At: 2, Behind: 2}},
		{"<", Word{Kind: Less, Behind: 1}},
	} {
		if got := Next(c.text, 0); got != c.want {
			t.Errorf("Next(%q) = %v, want %v", c.text, got, c.want)
		}
	}
}

func TestPlacesOutsideTheText(t *testing.T) {
	if got := Next("a b", -5); got.Text != "a" {
		t.Errorf("ahead of the text: %v", got)
	}
	if got := Next("a b", 99); got != (Word{Kind: End, At: 3, Behind: 3}) {
		t.Errorf("behind the text: %v", got)
	}
}
