package check

import (
	"docket/api"
	"docket/kind"
)

// cellInRing finds the first cell that lies in a ring.
// A cell that only leads into a ring does not come back to itself, so each is asked by itself.
func cellInRing(cells []api.Cell) (int, bool) {
	for i := range cells {
		reached := kind.Reached(cells, i)
		if reached[i] {
			return i, true
		}
	}
	return 0, false
}
