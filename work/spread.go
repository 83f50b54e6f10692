package work

import (
	"sync"

	"lineage/api"
)

// workers is how many goroutines share the rows.
const workers = 4

// share is the place for what comes of some of the rows.
type share[To any] struct {
	made  []To
	errno api.Errno
}

// step lays behind made what comes of a row: nothing, one or more.
type step[From, To any] func(made []To, row *From) ([]To, api.Errno)

// spread has the rows worked out by several goroutines. Each has some of them
// and a share of its own; the shares one behind the other are what comes of all
// rows in their order. There is but one error that a step can meet, so it does
// not matter which goroutine meets it first.
func spread[From, To any](rows []From, work step[From, To]) ([]To, api.Errno) {
	var shares [workers]share[To]
	var group sync.WaitGroup
	size := (len(rows) + workers - 1) / workers
	for i := range shares {
		from := min(i*size, len(rows))
		some := rows[from:min(from+size, len(rows))]
		group.Go(func() { shares[i] = workOut(some, work) })
	}
	group.Wait()
	var made []To
	for _, own := range shares {
		if own.errno != api.OK {
			return nil, own.errno
		}
		made = append(made, own.made...)
	}
	return made, api.OK
}

func workOut[From, To any](rows []From, work step[From, To]) share[To] {
	var own share[To]
	for i := range rows {
		own.made, own.errno = work(own.made, &rows[i])
		if own.errno != api.OK {
			break
		}
	}
	return own
}
