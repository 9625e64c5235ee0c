// Package text: forms written as texts, and read again.
package text

import (
	"strconv"

	"docket/api"
	"docket/kind"
)

// Write writes a form, which must be one without an error, as a text.
func Write(f api.Form) string {
	s := line("w", f.Week, f.Holidays)
	for _, c := range f.Cells {
		numbers := named(c)
		s += line("c", c.Kind, numbers)
	}
	for _, r := range f.Rules {
		s += line("r", r.Guard, r.Steps)
	}
	return s
}

// named lists the numbers of a cell that its row names: the others may be anything, and mean nothing.
func named(c api.Cell) []int {
	var numbers []int
	needs := kind.Needs(c.Kind)
	for place := 0; place < needs; place++ {
		need := kind.Need(c, place)
		numbers = append(numbers, need)
	}
	if kind.HasK(c.Kind) {
		numbers = append(numbers, c.K)
	}
	return numbers
}

func line(letter string, first int, others []int) string {
	s := letter + " " + strconv.Itoa(first)
	for _, n := range others {
		s += " " + strconv.Itoa(n)
	}
	return s + "\n"
}
