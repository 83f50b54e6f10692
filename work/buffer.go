package work

import (
	"sync"

	"lineage/api"
)

const (
	workers = 4 // how many goroutines share the rows
	least   = 8 // how many rows are worth a goroutine of their own
)

// buffer has what comes of rows. It is filled again and again, select by select
// and round by round, so that its room is made but once.
type buffer[T any] struct {
	shares [workers]share[T]
	all    []T
}

// share is one goroutine's own place for what comes of its part of the rows.
type share[T any] struct {
	made  []T
	errno api.Errno
}

// step lays behind made what comes of the row of a number: nothing, one or more.
type step[T any] func(made []T, number int) ([]T, api.Errno)

// fill has as many rows worked out by several goroutines, and answers what lies
// in the buffer then: what comes of all rows, in their order. There is but one
// error that a step can meet, so it does not matter which goroutine meets it first.
//
// Until all steps are done the buffer has what lay there ahead: a step may read it.
func (b *buffer[T]) fill(rows int, work step[T]) ([]T, api.Errno) {
	var group sync.WaitGroup
	size := max((rows+workers-1)/workers, least)
	for i := range b.shares {
		from := min(i*size, rows)
		to := min(from+size, rows)
		group.Go(func() { b.shares[i].fill(from, to, work) })
	}
	group.Wait()
	return b.gather()
}

// gather lays the shares one behind the other.
func (b *buffer[T]) gather() ([]T, api.Errno) {
	b.all = emptied(b.all)
	for i := range b.shares {
		if b.shares[i].errno != api.OK {
			return nil, b.shares[i].errno
		}
		b.all = append(b.all, b.shares[i].made...)
	}
	return b.all, api.OK
}

func (s *share[T]) fill(from, to int, work step[T]) {
	made, errno := emptied(s.made), api.OK
	for number := from; number < to && errno == api.OK; number++ {
		made, errno = work(made, number)
	}
	s.made, s.errno = made, errno
}

// emptied is the room of a list, without what lay there: of that nothing is kept.
func emptied[T any](list []T) []T {
	clear(list)
	return list[:0]
}
