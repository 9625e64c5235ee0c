package kind

import "docket/api"

// Reached marks each cell to which one comes by going one or more times from a cell to one that
// it needs: the start itself only if it lies in a ring.
func Reached(cells []api.Cell, start int) []bool {
	reached := make([]bool, len(cells))
	// The shortest way to a cell has no more steps than there are cells, and each round goes one on at least.
	for range cells {
		for i, c := range cells {
			if i != start && !reached[i] {
				continue
			}
			count := Needs(c.Kind)
			for place := 0; place < count; place++ {
				need := Need(c, place)
				if need >= 0 && need < len(reached) {
					reached[need] = true
				}
			}
		}
	}
	return reached
}
