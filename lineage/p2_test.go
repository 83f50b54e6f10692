package lineage

import (
	"strings"
	"sync"
	"testing"
	"unsafe"

	"lineage/api"
)

type printed struct {
	plain string
	errno api.Errno
	place int
}

func printOf(text string) printed {
	plain, errno, place := Print(text)
	return printed{plain, errno, place}
}

func TestP2PrintHangsOnItsTextAlone(t *testing.T) {
	texts := wildTexts()
	first := make([]printed, len(texts))
	for i, text := range texts {
		first[i] = printOf(text)
	}
	var group sync.WaitGroup
	for range 4 {
		group.Go(func() {
			for i := range texts {
				i = len(texts) - 1 - i
				if again := printOf(texts[i]); again != first[i] {
					t.Errorf("P2: Print(%.80q) = %v, ahead of that %v", texts[i], again, first[i])
				}
			}
		})
	}
	group.Wait()
}

// An answer that is the text itself, letter by letter, is new memory too.
func TestP2NewMemory(t *testing.T) {
	for _, text := range []string{"SELECT 1", "SELECT 'a'", "SELECT a", "CREATE TABLE e(a INT)"} {
		text = strings.Clone(text)
		plain, _, _ := Print(text)
		if plain != text {
			t.Errorf("Print(%q) = %q", text, plain)
		}
		if unsafe.StringData(plain) == unsafe.StringData(text) {
			t.Errorf("P2: Print(%q) answers the memory of its argument", text)
		}
	}
}
