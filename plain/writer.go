package plain

import (
	"strings"

	"lineage/words"
)

// A writer puts a blank ahead of a word, unless the word is glued to the one
// ahead of it.
type writer struct {
	plain strings.Builder
	glued bool
}

func (w *writer) glue() {
	w.glued = true
}

func (w *writer) word(word string) {
	if !w.glued {
		w.plain.WriteByte(' ')
	}
	w.plain.WriteString(word)
	w.glued = false
}

// put writes signs and keywords.
func (w *writer) put(kinds ...words.Kind) {
	for _, kind := range kinds {
		switch kind {
		case words.Close, words.Comma, words.Dot:
			w.glue()
		}
		w.word(kind.Spelling())
		switch kind {
		case words.Open, words.Dot:
			w.glue()
		}
	}
}

// list writes elements with commas between.
func list[T any](w *writer, elements []T, write func(T)) {
	for i, element := range elements {
		if i > 0 {
			w.put(words.Comma)
		}
		write(element)
	}
}
