// Package lineage: a small database: see DOC.md.
package lineage

import (
	"sync"

	"lineage/api"
	"lineage/check"
	"lineage/plain"
	"lineage/reading"
	"lineage/tree"
	"lineage/work"
)

// Print writes a text anew (P4).
func Print(text string) (string, api.Errno, int) {
	sentence, errno, place := reading.Read(text)
	if errno != api.OK {
		return "", errno, place
	}
	return plain.Text(sentence), api.OK, 0
}

// DB has tables.
type DB struct {
	// Calls at the same time take turns: of any two one is ahead of the other.
	turn   sync.Mutex
	tables check.Tables
}

// New makes an empty database (P5).
func New() *DB {
	return &DB{tables: check.Tables{}}
}

// Run does what a text says (P5 to P9).
func (db *DB) Run(text string) (api.Answer, api.Errno, int) {
	sentence, errno, place := reading.Read(text)
	if errno != api.OK {
		return api.Answer{}, errno, place
	}
	db.turn.Lock()
	defer db.turn.Unlock()
	answer, errno := db.do(sentence)
	return answer, errno, 0
}

func (db *DB) do(sentence tree.Sentence) (api.Answer, api.Errno) {
	switch s := sentence.(type) {
	case tree.Create:
		return api.Answer{}, db.create(s)
	case tree.Insert:
		return db.insert(s)
	case tree.Query:
		return db.query(s)
	}
	return api.Answer{}, api.OK
}

func (db *DB) create(create tree.Create) api.Errno {
	errno := check.Create(db.tables, create)
	if errno == api.OK {
		db.tables[create.Table] = &work.Table{Columns: create.Columns}
	}
	return errno
}

func (db *DB) insert(insert tree.Insert) (api.Answer, api.Errno) {
	exprs, errno := check.Insert(db.tables, insert)
	if errno != api.OK {
		return api.Answer{}, errno
	}
	rows, errno := work.Rows(exprs)
	if errno != api.OK {
		return api.Answer{}, errno
	}
	table := db.tables[insert.Table]
	if len(table.Rows)+len(rows) > api.MaxRows {
		return api.Answer{}, api.ErrMany
	}
	table.Rows = append(table.Rows, rows...)
	return api.Answer{Count: len(rows)}, api.OK
}

func (db *DB) query(query tree.Query) (api.Answer, api.Errno) {
	checked, errno := check.Query(db.tables, query)
	if errno != api.OK {
		return api.Answer{}, errno
	}
	return checked.Answer()
}
