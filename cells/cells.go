// Package cells: what the cells of a form are worth.
package cells

import (
	"docket/api"
	"docket/calendar"
	"docket/kind"
)

// Values tells the value of each cell at an instant, for a form that has no error.
// An Input is worth its K: who fills it in lays that there.
func Values(f api.Form, now int) []int {
	values := make([]int, len(f.Cells))
	done := make([]bool, len(f.Cells))
	left := len(f.Cells)
	// There is no ring, so each round works out one more cell at least. To go by rounds
	// works each cell out once, however many need it.
	for round := 0; left > 0 && round < len(f.Cells); round++ {
		for i, c := range f.Cells {
			if !done[i] && ready(c, done) {
				values[i] = value(f, c, values, now)
				done[i] = true
				left--
			}
		}
	}
	return values
}

// ready tells whether all that c needs is worked out.
func ready(c api.Cell, done []bool) bool {
	needs := kind.Needs(c.Kind)
	for place := 0; place < needs; place++ {
		need := kind.Need(c, place)
		if need < 0 || need >= len(done) || !done[need] {
			return false
		}
	}
	return true
}

// value works a cell out of the values of those that it needs.
func value(f api.Form, c api.Cell, values []int, now int) int {
	a := pick(values, c.A)
	b := pick(values, c.B)
	switch c.Kind {
	case api.Input, api.Const:
		return c.K
	case api.If:
		if a != 0 {
			return b
		}
		return pick(values, c.C)
	case api.Past:
		return truth(now >= a)
	case api.Age:
		return age(a, c.K, now)
	case api.Due:
		return due(f, a, c.K)
	}
	return ofTwo(c.Kind, a, b)
}

// pick answers 0 where there is no such cell: a number that no row names may be anything.
func pick(values []int, cell int) int {
	if cell < 0 || cell >= len(values) {
		return 0
	}
	return values[cell]
}

func ofTwo(which int, a int, b int) int {
	switch which {
	case api.Add:
		return cut(int64(a) + int64(b))
	case api.Sub:
		return cut(int64(a) - int64(b))
	case api.Mul:
		return cut(int64(a) * int64(b))
	case api.Min:
		return lesser(a, b)
	case api.Max:
		return greater(a, b)
	case api.Less:
		return truth(a < b)
	case api.Same:
		return truth(a == b)
	}
	return 0
}

// age reckons in 64 bits: from the least value to the last instant is more than 32 hold.
func age(from int, unit int, now int) int {
	if now < from || unit <= 0 {
		return 0
	}
	return cut((int64(now) - int64(from)) / int64(unit))
}

func due(f api.Form, from int, k int) int {
	day := calendar.DayOf(from)
	last := calendar.WorkingDay(f.Week, f.Holidays, day, k)
	return cut(int64(last) * api.Day)
}

// cut takes 64 bits, as many as the product of two values needs, whatever an int has.
func cut(n int64) int {
	if n > api.Limit {
		return api.Limit
	}
	if n < -api.Limit {
		return -api.Limit
	}
	return int(n)
}

func truth(holds bool) int {
	if holds {
		return 1
	}
	return 0
}

func lesser(a int, b int) int {
	if b < a {
		return b
	}
	return a
}

func greater(a int, b int) int {
	if b > a {
		return b
	}
	return a
}
