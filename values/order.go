// Package values has the order of values, and the operations on them.
package values

import (
	"cmp"
	"slices"

	"lineage/api"
)

// Compare holds two values against each other by their order. The kinds are
// numbered in this order, and the places for another kind are all alike.
func Compare(a, b api.Value) int {
	return cmp.Or(
		cmp.Compare(a.Kind, b.Kind),
		cmp.Compare(a.Int, b.Int),
		cmp.Compare(a.Text, b.Text),
		cmp.Compare(rank(a.Bool), rank(b.Bool)),
	)
}

func rank(truth bool) int {
	if truth {
		return 1
	}
	return 0
}

// CompareRows holds two rows against each other by their order.
func CompareRows(a, b []api.Value) int {
	return slices.CompareFunc(a, b, Compare)
}
