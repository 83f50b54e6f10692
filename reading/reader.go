// Package reading reads a text into its sentence.
package reading

import (
	"slices"

	"lineage/api"
	"lineage/tree"
	"lineage/words"
)

// A reader stands ahead of a word of its text.
type reader struct {
	text  string
	word  words.Word
	deep  int
	errno api.Errno
	place int
}

// Read reads a whole text: its sentence, or its first fault and the place of that.
func Read(text string) (tree.Sentence, api.Errno, int) {
	if len(text) > api.MaxText {
		return nil, api.ErrText, 0
	}
	r := &reader{text: text, word: words.Next(text, 0)}
	sentence := r.sentence()
	r.skip(words.Semicolon)
	r.must(words.End)
	if r.errno != api.OK {
		return nil, r.errno, r.place
	}
	return sentence, api.OK, 0
}

// take reads the word that stands next, if it is of one of these kinds.
func (r *reader) take(kinds ...words.Kind) (words.Word, bool) {
	if !slices.Contains(kinds, r.word.Kind) {
		return words.Word{}, false
	}
	word := r.word
	r.word = words.Next(r.text, word.Behind)
	return word, true
}

// skip is take for those who need not know which word it was.
func (r *reader) skip(kinds ...words.Kind) bool {
	_, taken := r.take(kinds...)
	return taken
}

// must reads words of all these kinds, one behind the other, and answers the last.
func (r *reader) must(kinds ...words.Kind) words.Word {
	var last words.Word
	for _, kind := range kinds {
		word, taken := r.take(kind)
		if !taken {
			r.fail(api.ErrText)
			return words.Word{}
		}
		last = word
	}
	return last
}

// fail keeps the first fault alone. Behind it the reader stands ahead of no
// word, which is of no kind that is ever asked for: so every loop ends, and no
// caller need look whether reading went well.
func (r *reader) fail(errno api.Errno) {
	if r.errno != api.OK {
		return
	}
	r.errno, r.place = errno, r.word.At
	r.word = words.Word{}
}

// deeper reads a word that leads deeper into an expr, if it stands next. Who
// has read one calls shallower behind what stands within.
func (r *reader) deeper(kind words.Kind) bool {
	if r.word.Kind != kind {
		return false
	}
	if r.deep == api.MaxDeep {
		r.fail(api.ErrDeep)
		return false
	}
	r.deep++
	return r.skip(kind)
}

func (r *reader) shallower() {
	r.deep--
}

// list reads elements with commas between.
func list[T any](r *reader, element func() T) []T {
	elements := []T{element()}
	for r.skip(words.Comma) {
		elements = append(elements, element())
	}
	return elements
}
