// Package kind: the table of the kinds of cells, as far as more than one package asks for it.
package kind

import "docket/api"

// needs has a number for each kind: how many of A, B and C its row names.
// A row that names fewer than three names the first of them.
var needs = [13]int{
	api.Input: 0,
	api.Const: 0,
	api.Add:   2,
	api.Sub:   2,
	api.Mul:   2,
	api.Min:   2,
	api.Max:   2,
	api.Less:  2,
	api.Same:  2,
	api.If:    3,
	api.Past:  1,
	api.Age:   1,
	api.Due:   1,
}

// Known tells whether there is such a kind.
func Known(kind int) bool {
	return kind >= 0 && kind < len(needs)
}

// Needs tells how many cells a cell of this kind needs: none, if there is no such kind.
func Needs(kind int) int {
	if !Known(kind) {
		return 0
	}
	return needs[kind]
}

// Need tells which cell stands in A, B or C: the places 0, 1 and 2.
func Need(c api.Cell, place int) int {
	switch place {
	case 0:
		return c.A
	case 1:
		return c.B
	}
	return c.C
}

// HasK tells whether the row of this kind says something of K.
func HasK(kind int) bool {
	switch kind {
	case api.Input, api.Const, api.Age, api.Due:
		return true
	}
	return false
}

// AllowsK tells whether a cell of this kind may have this K.
// A kind whose row is silent on K allows every one.
func AllowsK(kind int, k int) bool {
	switch kind {
	case api.Input, api.Const:
		return IsValue(k)
	case api.Age:
		return k >= api.MinUnit && k <= api.MaxTime
	case api.Due:
		return k >= 0 && k <= api.MaxDue
	}
	return true
}

// IsValue tells whether a number is a value.
func IsValue(n int) bool {
	return n >= -api.Limit && n <= api.Limit
}
