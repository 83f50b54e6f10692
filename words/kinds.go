package words

import "strings"

// Kind tells what a word is.
type Kind int

// None stands first, so that a Word without anything in it is no word.
const (
	None Kind = iota
	End       // behind the last word
	Name
	Number
	String
	Open
	Close
	Comma
	Dot
	Semicolon
	Star
	Equal
	Unequal
	Less
	LessEqual
	Greater
	GreaterEqual
	Plus
	Minus
	Slash
	Percent
	Bars
	All
	And
	As
	Bool
	Create
	False
	From
	Insert
	Int
	Into
	Is
	Join
	Not
	Null
	On
	Or
	Recursive
	Select
	Table
	Text
	True
	Union
	Values
	Where
	With
)

const (
	firstSign    = Open
	lastSign     = Bars
	firstKeyword = All
	lastKeyword  = With
)

// The kinds ahead of the signs are spelled in many ways and have no entry.
var spellings = [...]string{
	Open: "(", Close: ")", Comma: ",", Dot: ".", Semicolon: ";", Star: "*",
	Equal: "=", Unequal: "<>", Less: "<", LessEqual: "<=", Greater: ">", GreaterEqual: ">=",
	Plus: "+", Minus: "-", Slash: "/", Percent: "%", Bars: "||",
	All: "ALL", And: "AND", As: "AS", Bool: "BOOL", Create: "CREATE", False: "FALSE",
	From: "FROM", Insert: "INSERT", Int: "INT", Into: "INTO", Is: "IS", Join: "JOIN",
	Not: "NOT", Null: "NULL", On: "ON", Or: "OR", Recursive: "RECURSIVE", Select: "SELECT",
	Table: "TABLE", Text: "TEXT", True: "TRUE", Union: "UNION", Values: "VALUES",
	Where: "WHERE", With: "WITH",
}

// Spelling writes a sign, or a keyword in capitals.
func (kind Kind) Spelling() string {
	return spellings[kind]
}

// spelled looks among the kinds from first to last for the one that is spelled
// so; capitals count as small letters.
func spelled(word string, first, last Kind) Kind {
	for kind := first; kind <= last; kind++ {
		if strings.EqualFold(spellings[kind], word) {
			return kind
		}
	}
	return None
}
