// Package lineage: a small database: see DOC.md.
package lineage

import (
	"lineage/api"
	"lineage/plain"
	"lineage/reading"
)

// Print writes a text anew (P4).
func Print(text string) (string, api.Errno, int) {
	sentence, errno, place := reading.Read(text)
	if errno != api.OK {
		return "", errno, place
	}
	return plain.Text(sentence), api.OK, 0
}

// DB has tables.
type DB struct{}

// New makes an empty database (P5).
func New() *DB { return nil }

// Run does what a text says (P5 to P9).
func (db *DB) Run(text string) (api.Answer, api.Errno, int) { return api.Answer{}, api.OK, 0 }
