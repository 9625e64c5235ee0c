package cells

import "docket/api"

// Turn tells the first instant behind now, up to MaxTime, at which a cell has another value,
// for a form that has no error and the values of its cells now.
//
// Till the first cell turns all values stay, so each cell's own turn can be reckoned from them.
// And at that instant one does turn: of those whose turn it is, the one that needs no other of them.
func Turn(f api.Form, values []int, now int) (int, bool) {
	first := int64(api.MaxTime) + 1
	for _, c := range f.Cells {
		turn, turns := turnOf(c, values, int64(now))
		if turns && turn < first {
			first = turn
		}
	}
	if first > api.MaxTime {
		return 0, false
	}
	return int(first), true
}

// turnOf tells when the clock changes a cell, if what it needs stays as it is.
// It reckons in 64 bits: a value and a unit together may be more than 32 hold.
func turnOf(c api.Cell, values []int, now int64) (int64, bool) {
	a := int64(pick(values, c.A))
	switch c.Kind {
	case api.Past:
		return a, a > now
	case api.Age:
		return nextUnit(a, int64(c.K), now)
	}
	return 0, false
}

// nextUnit tells when the next whole unit from an instant on is full.
func nextUnit(from int64, unit int64, now int64) (int64, bool) {
	if unit <= 0 {
		return 0, false
	}
	if now < from {
		return from + unit, true
	}
	return now + unit - (now-from)%unit, true
}
