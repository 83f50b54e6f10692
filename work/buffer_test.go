package work

import (
	"slices"
	"sync"
	"testing"

	"lineage/api"
)

func upTo(n int) []int {
	numbers := make([]int, n)
	for i := range numbers {
		numbers[i] = i
	}
	return numbers
}

// thrice lays a number behind the others none, one or two times.
func thrice(made []int, i int) ([]int, api.Errno) {
	for range i % 3 {
		made = append(made, i)
	}
	return made, api.OK
}

func wantFilled(t *testing.T, b *buffer[int], n int) {
	t.Helper()
	var want []int
	for i := range n {
		want, _ = thrice(want, i)
	}
	got, errno := b.fill(n, thrice)
	if errno != api.OK || !slices.Equal(got, want) || !slices.Equal(b.all, want) {
		t.Errorf("of %d rows: %v, %d, want %v", n, got, errno, want)
	}
}

// What comes of the rows has their order, however many there are.
func TestFillKeepsTheOrder(t *testing.T) {
	for n := range 150 {
		wantFilled(t, &buffer[int]{}, n)
	}
}

// What lay in a buffer ahead does not come again, nor does an error.
func TestFillAgainAndAgain(t *testing.T) {
	b := &buffer[int]{}
	for _, n := range []int{100, 40, 0, 3, 200, 7, 8, 9, 1, 65, 0, 64} {
		wantFilled(t, b, n)
		b.fill(n, func(made []int, i int) ([]int, api.Errno) { return append(made, -i), api.ErrValue })
		wantFilled(t, b, n/2)
	}
}

// A step may read what the buffer has, until all are done.
func TestFillFromItself(t *testing.T) {
	b := &buffer[int]{all: upTo(100)}
	for range 5 {
		ahead := b.all
		want := slices.Clone(ahead)
		slices.Reverse(want)
		got, errno := b.fill(len(ahead), func(made []int, i int) ([]int, api.Errno) {
			return append(made, ahead[len(ahead)-1-i]), api.OK
		})
		if errno != api.OK || !slices.Equal(got, want) {
			t.Fatalf("%v, %d, want %v", got, errno, want)
		}
	}
}

func TestFillMeetsAnErrorAnywhere(t *testing.T) {
	for n := range 60 {
		b := &buffer[int]{}
		for bad := range n {
			got, errno := b.fill(n, func(made []int, i int) ([]int, api.Errno) {
				if i == bad {
					return made, api.ErrValue
				}
				return append(made, i), api.OK
			})
			if got != nil || errno != api.ErrValue {
				t.Errorf("row %d of %d: %v, %d", bad, n, got, errno)
			}
		}
	}
}

// The rows are shared among several goroutines: as many of them can wait for
// each other as there are workers.
func TestFillHasSeveralAtWork(t *testing.T) {
	var together sync.WaitGroup
	together.Add(workers)
	n := workers * least
	rows, _ := (&buffer[int]{}).fill(n, func(made []int, i int) ([]int, api.Errno) {
		if i%least == 0 {
			together.Done()
			together.Wait()
		}
		return append(made, i), api.OK
	})
	if !slices.Equal(rows, upTo(n)) {
		t.Errorf("%v", rows)
	}
}

// Of what lay in a list nothing is kept in its room.
func TestEmptied(t *testing.T) {
	list := []string{"a", "b", "c"}
	room := emptied(list)
	if len(room) != 0 || cap(room) != 3 || !slices.Equal(list, []string{"", "", ""}) {
		t.Errorf("%q, room for %d, in it %q", room, cap(room), list)
	}
	if room := emptied([]string(nil)); len(room) != 0 {
		t.Errorf("%q", room)
	}
}
