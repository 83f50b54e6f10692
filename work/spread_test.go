package work

import (
	"slices"
	"sync"
	"testing"

	"lineage/api"
)

func upTo(n int) []int {
	numbers := make([]int, n)
	for i := range numbers {
		numbers[i] = i
	}
	return numbers
}

// What comes of the rows has their order, however many there are.
func TestSpreadKeepsTheOrder(t *testing.T) {
	for n := range 50 {
		var want []int
		for i := range n {
			for range i % 3 {
				want = append(want, i)
			}
		}
		got, errno := spread(upTo(n), func(made []int, i *int) ([]int, api.Errno) {
			for range *i % 3 {
				made = append(made, *i)
			}
			return made, api.OK
		})
		if errno != api.OK || !slices.Equal(got, want) {
			t.Errorf("of %d rows: %v, %d, want %v", n, got, errno, want)
		}
	}
}

func TestSpreadMeetsAnErrorAnywhere(t *testing.T) {
	for n := range 20 {
		for bad := range n {
			got, errno := spread(upTo(n), func(made []int, i *int) ([]int, api.Errno) {
				if *i == bad {
					return made, api.ErrValue
				}
				return append(made, *i), api.OK
			})
			if got != nil || errno != api.ErrValue {
				t.Errorf("row %d of %d: %v, %d", bad, n, got, errno)
			}
		}
	}
}

// The rows are shared among several goroutines: as many of them can wait for
// each other as there are workers.
func TestSpreadHasSeveralAtWork(t *testing.T) {
	var together sync.WaitGroup
	together.Add(workers)
	rows, _ := spread(upTo(workers), func(made []int, i *int) ([]int, api.Errno) {
		together.Done()
		together.Wait()
		return append(made, *i), api.OK
	})
	if !slices.Equal(rows, upTo(workers)) {
		t.Errorf("%v", rows)
	}
}
