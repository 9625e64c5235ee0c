package check

import (
	"docket/api"
	"docket/kind"
)

// cellInRing finds the first cell that lies in a ring.
func cellInRing(cells []api.Cell) (int, bool) {
	for i := range cells {
		if inRing(cells, i) {
			return i, true
		}
	}
	return 0, false
}

// inRing tells whether one comes back to a cell by going on to what is needed.
// A cell that only leads into a ring does not come back, so each is asked by itself.
func inRing(cells []api.Cell, start int) bool {
	reached := make([]bool, len(cells))
	// The shortest way back has no more steps than there are cells, and each round goes one on at least.
	for range cells {
		for i, c := range cells {
			if i != start && !reached[i] {
				continue
			}
			needs := kind.Needs(c.Kind)
			for place := 0; place < needs; place++ {
				need := kind.Need(c, place)
				if need == start {
					return true
				}
				if need >= 0 && need < len(reached) {
					reached[need] = true
				}
			}
		}
	}
	return false
}
