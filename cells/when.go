package cells

import (
	"docket/api"
	"docket/kind"
)

// When tells the first instant behind now, up to MaxTime, at which one cell has another value
// than now, for a form that has no error. At a turn of what it needs the cell may keep its value,
// so it is looked at anew at each.
func When(f api.Form, cell int, now int) (int, bool) {
	own := alone(f, cell)
	values := Values(own, now)
	present := pick(values, cell)
	turn, turns := Turn(own, values, now)
	for turns {
		values = Values(own, turn)
		if pick(values, cell) != present {
			return turn, true
		}
		turn, turns = Turn(own, values, turn)
	}
	return 0, false
}

// alone makes a form in which nothing turns but a cell and what it needs:
// the turns of the others, thousands perhaps, cannot change it.
func alone(f api.Form, cell int) api.Form {
	needed := kind.Reached(f.Cells, cell)
	own := make([]api.Cell, len(f.Cells))
	for i, c := range f.Cells {
		own[i] = api.Cell{Kind: api.Const}
		if i == cell || needed[i] {
			own[i] = c
		}
	}
	f.Cells = own
	return f
}
