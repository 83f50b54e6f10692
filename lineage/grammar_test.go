package lineage

import (
	"math/rand"
	"regexp"
	"slices"
	"strconv"
	"strings"
	"testing"
)

// The grammar as the document has it: what is read is held against it.
const grammar = `
text      = sentence [ ";" ]
sentence  = CREATE TABLE name "(" name type { "," name type } ")" | INSERT INTO name VALUES row { "," row } | query
type      = INT | TEXT | BOOL
row       = "(" expr { "," expr } ")"
query     = [ WITH [ RECURSIVE ] part { "," part } ] body
part      = name "(" name { "," name } ")" AS "(" body ")"
body      = select { UNION [ ALL ] select }
select    = SELECT ( "*" | item { "," item } ) [ FROM chain { "," chain } ] [ WHERE expr ]
item      = expr [ AS name ]
chain     = source { JOIN source ON expr }
source    = name [ AS name ]
expr      = and { OR and }
and       = not { AND not }
not       = NOT not | compared
compared  = sum [ ( "=" | "<>" | "<" | "<=" | ">" | ">=" ) sum | IS [ NOT ] NULL ]
sum       = term { ( "+" | "-" | "||" ) term }
term      = factor { ( "*" | "/" | "%" ) factor }
factor    = "-" factor | number | string | TRUE | FALSE | NULL | name [ "." name ] | "(" expr ")"
`

const keywords = " all and as bool create false from insert int into is join not null on or recursive select table text true union values where with "

// phrase is a piece of the grammar: one of several, several in a row, one that
// may be there, one that may be there again and again, a rule, or a word.
type phrase struct {
	way   string // "one", "row", "may", "again", "rule", "word"
	parts []*phrase
	text  string
}

// grammarReader reads the grammar itself.
type grammarReader struct{ left []string }

func (g *grammarReader) one(end string) *phrase {
	one := &phrase{way: "one"}
	row := &phrase{way: "row"}
	for len(g.left) > 0 && g.left[0] != end {
		sign := g.left[0]
		g.left = g.left[1:]
		switch {
		case sign == "|":
			one.parts = append(one.parts, row)
			row = &phrase{way: "row"}
		case sign == "(":
			row.parts = append(row.parts, g.one(")"))
		case sign == "[":
			row.parts = append(row.parts, &phrase{way: "may", parts: []*phrase{g.one("]")}})
		case sign == "{":
			row.parts = append(row.parts, &phrase{way: "again", parts: []*phrase{g.one("}")}})
		case sign[0] == '"':
			row.parts = append(row.parts, &phrase{way: "word", text: strings.Trim(sign, `"`)})
		case sign == strings.ToUpper(sign), slices.Contains([]string{"name", "number", "string"}, sign):
			row.parts = append(row.parts, &phrase{way: "word", text: sign})
		default:
			row.parts = append(row.parts, &phrase{way: "rule", text: sign})
		}
	}
	if len(g.left) > 0 {
		g.left = g.left[1:]
	}
	one.parts = append(one.parts, row)
	return one
}

func rulesOf(grammar string) map[string]*phrase {
	rules := map[string]*phrase{}
	for _, line := range strings.Split(strings.TrimSpace(grammar), "\n") {
		name, right, _ := strings.Cut(line, "=")
		reader := &grammarReader{strings.Fields(right)}
		rules[strings.TrimSpace(name)] = reader.one("")
	}
	return rules
}

var rules = rulesOf(grammar)

// token is a word of a text; class is what the grammar calls it, "none" (no
// word) or "end".
type token struct {
	class string
	text  string
	at    int
}

var tokenForm = regexp.MustCompile(`(?s)^(?:[a-zA-Z_][a-zA-Z_0-9]*|[0-9]+|'(?:[^']|'')*'|<>|<=|>=|\|\||[(),.;*=<>+/%-])`)

// tokensOf cuts a text up to and with its end, or the first that is no word.
func tokensOf(text string) []token {
	var tokens []token
	for at := 0; ; {
		for at < len(text) && strings.IndexByte(" \t\n\r", text[at]) >= 0 {
			at++
		}
		if at == len(text) {
			return append(tokens, token{"end", "", at})
		}
		found := tokenForm.FindString(text[at:])
		class := classOf(found, text[at+len(found):])
		tokens = append(tokens, token{class, found, at})
		if class == "none" {
			return tokens
		}
		at += len(found)
	}
}

func classOf(found, behind string) string {
	switch {
	case found == "":
		return "none"
	case found[0] == '\'':
		if strings.HasPrefix(behind, "'") {
			return "none"
		}
		return "string"
	case '0' <= found[0] && found[0] <= '9':
		if _, err := strconv.ParseInt(found, 10, 64); err != nil {
			return "none"
		}
		return "number"
	case found[0] == '_' || found[0] >= 'A' && found[0] <= 'Z' || found[0] >= 'a' && found[0] <= 'z':
		if strings.Contains(keywords, " "+strings.ToLower(found)+" ") {
			return strings.ToUpper(found)
		}
		if len(found) > 16 {
			return "none"
		}
		return "name"
	}
	return found
}

// matcher follows all ways through the grammar at once; furthest is the
// furthest token that was asked for.
type matcher struct {
	tokens   []token
	furthest int
}

// behind tells where a phrase may end that begins at one of these tokens.
func (m *matcher) behind(p *phrase, from []int) []int {
	var to []int
	switch p.way {
	case "word":
		for _, i := range from {
			m.furthest = max(m.furthest, i)
			if m.tokens[i].class == p.text {
				to = append(to, i+1)
			}
		}
	case "rule":
		if len(from) > 0 {
			to = m.behind(rules[p.text], from)
		}
	case "row":
		to = from
		for _, part := range p.parts {
			to = m.behind(part, to)
		}
	case "one":
		for _, part := range p.parts {
			to = append(to, m.behind(part, from)...)
		}
	case "may":
		to = append(slices.Clone(from), m.behind(p.parts[0], from)...)
	case "again":
		to = slices.Clone(from)
		for next := from; len(next) > 0; {
			next = m.behind(p.parts[0], next)
			to = append(to, next...)
		}
	}
	slices.Sort(to)
	return slices.Compact(to)
}

// faultOf tells where a text has a word that cannot stand there; below 0: nowhere.
func faultOf(text string) int {
	m := &matcher{tokens: tokensOf(text)}
	whole := &phrase{way: "row", parts: []*phrase{{way: "rule", text: "text"}, {way: "word", text: "end"}}}
	if len(m.behind(whole, []int{0})) > 0 {
		return -1
	}
	return m.tokens[m.furthest].at
}

// maker makes texts at random, always the same ones.
type maker struct {
	*rand.Rand
	left int // about how many words there may come
}

func newMaker(seed int64) *maker {
	return &maker{Rand: rand.New(rand.NewSource(seed))}
}

func (m *maker) sentence() []string {
	m.left = 10 + m.Intn(60)
	return m.phrase(rules["text"])
}

func (m *maker) phrase(p *phrase) []string {
	var made []string
	switch p.way {
	case "word":
		m.left--
		return []string{m.word(p.text)}
	case "rule":
		return m.phrase(rules[p.text])
	case "row":
		for _, part := range p.parts {
			made = append(made, m.phrase(part)...)
		}
	case "one":
		return m.phrase(p.parts[m.Intn(len(p.parts))])
	case "may", "again":
		for m.left > 0 && m.Intn(3) == 0 {
			made = append(made, m.phrase(p.parts[0])...)
			if p.way == "may" {
				break
			}
		}
	}
	return made
}

func (m *maker) word(class string) string {
	choices := []string{class, strings.ToLower(class)}
	switch class {
	case "name":
		choices = []string{"a", "B", "_c9", "sixteen_bytes_ok"}
	case "number":
		choices = []string{"0", "1", "007", "9223372036854775807"}
	case "string":
		choices = []string{"''", "'x'", "'it''s'", "'( A\n,;'"}
	}
	return choices[m.Intn(len(choices))]
}

// text lays words side by side, now and then without a blank between.
func (m *maker) text(words []string) string {
	var text strings.Builder
	for _, word := range words {
		if m.Intn(20) > 0 {
			text.WriteString([]string{" ", "\n", "\t \r"}[m.Intn(3)])
		}
		text.WriteString(word)
	}
	return text.String()
}

// spoil changes a few words, which mostly makes the sentence a wrong one.
func (m *maker) spoil(words []string) []string {
	others := append(strings.Fields(keywords), "(", ")", ",", ".", ";", "*", "=", "<", ">=", "+", "-", "||", "a", "1", "'x'", "|", "'", "!", "seventeen_bytes__", "9223372036854775808")
	for range 1 + m.Intn(3) {
		i := m.Intn(len(words) + 1)
		other := others[m.Intn(len(others))]
		switch m.Intn(4) {
		case 0:
			words = slices.Insert(words, i, other)
		case 1:
			words = words[:i]
		case 2:
			words = slices.Delete(words, min(i, len(words)-1), len(words[:min(i+1, len(words))]))
		case 3:
			words = slices.Concat(words[:i], []string{other}, words[min(i+1, len(words)):])
		}
		if len(words) == 0 {
			words = []string{other}
		}
	}
	return words
}

// The grammar's own reader must be right, if others are held against it.
func TestGrammarOfTests(t *testing.T) {
	for _, c := range []struct {
		text string
		at   int
	}{{"SELECT 1", -1}, {"SELECT (1 + a.b) IS NOT NULL AS c FROM d;", -1}, {"", 0}, {"SELECT 1 = 1 = 1", 13}, {"SELECT 'a''", 7}, {"CREATE TABLE e(a INT b INT)", 21}} {
		if at := faultOf(c.text); at != c.at {
			t.Errorf("faultOf(%q) = %d, want %d", c.text, at, c.at)
		}
	}
}
