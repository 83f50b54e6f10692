// Package words cuts a text into its words.
package words

import (
	"strconv"
	"strings"

	"lineage/api"
)

// Word is a word of a text, or bytes that are none.
type Word struct {
	Kind   Kind
	At     int    // where it begins
	Behind int    // where the next word may begin
	Text   string // of a name, in small letters, or of a string, without its quotes
	Number int
}

// Next cuts out the first word at the place from or behind it. It looks at
// nothing behind that word, so that the words come in the order of their faults.
func Next(text string, from int) Word {
	at := runEnd(text, max(0, min(from, len(text))), isBlank)
	switch {
	case at == len(text):
		return Word{Kind: End, At: at, Behind: at}
	case isLetter(text[at]):
		return nameOrKeyword(text, at)
	case isDigit(text[at]):
		return number(text, at)
	case text[at] == '\'':
		return quoted(text, at)
	}
	return sign(text, at)
}

func noWord(at int) Word {
	return Word{Kind: None, At: at, Behind: at}
}

func nameOrKeyword(text string, at int) Word {
	end := runEnd(text, at, isNameByte)
	if kind := spelled(text[at:end], firstKeyword, lastKeyword); kind != None {
		return Word{Kind: kind, At: at, Behind: end}
	}
	if end-at > api.MaxName {
		return noWord(at)
	}
	return Word{Kind: Name, At: at, Behind: end, Text: smallLetters(text[at:end])}
}

func number(text string, at int) Word {
	end := runEnd(text, at, isDigit)
	value, err := strconv.ParseInt(text[at:end], 10, 64)
	if err != nil {
		return noWord(at)
	}
	return Word{Kind: Number, At: at, Behind: end, Number: int(value)}
}

func quoted(text string, at int) Word {
	var inside strings.Builder
	for i := at + 1; i < len(text); i++ {
		if text[i] == '\'' {
			if i+1 == len(text) || text[i+1] != '\'' {
				return Word{Kind: String, At: at, Behind: i + 1, Text: inside.String()}
			}
			i++
		}
		inside.WriteByte(text[i])
	}
	return noWord(at)
}

// sign tries two bytes ahead of one: the longest sign that can be counts.
func sign(text string, at int) Word {
	for long := 2; long > 0; long-- {
		end := min(at+long, len(text))
		if kind := spelled(text[at:end], firstSign, lastSign); kind != None {
			return Word{Kind: kind, At: at, Behind: end}
		}
	}
	return noWord(at)
}

// runEnd tells how far the bytes go from a place on that belong to a run.
func runEnd(text string, from int, belongs func(byte) bool) int {
	for from < len(text) && belongs(text[from]) {
		from++
	}
	return from
}

// smallLetters always makes new memory: a name is kept longer than its text.
func smallLetters(name string) string {
	small := []byte(name)
	for i, b := range small {
		if 'A' <= b && b <= 'Z' {
			small[i] = b - 'A' + 'a'
		}
	}
	return string(small)
}

func isBlank(b byte) bool {
	return b == ' ' || b == '\t' || b == '\n' || b == '\r'
}

func isDigit(b byte) bool {
	return '0' <= b && b <= '9'
}

func isLetter(b byte) bool {
	return 'a' <= b && b <= 'z' || 'A' <= b && b <= 'Z' || b == '_'
}

func isNameByte(b byte) bool {
	return isLetter(b) || isDigit(b)
}
