// Package check: whether a form is one, and if not, what is wrong with it first.
package check

import (
	"docket/api"
	"docket/kind"
)

// Form tells the first error of a form and the number that goes with it (P3); OK and 0, if it has none.
func Form(f api.Form) (api.Errno, int) {
	if !sizesFit(f) {
		return api.ErrForm, 0
	}
	place, wrong := wrongHoliday(f.Holidays)
	if wrong {
		return api.ErrCalendar, place
	}
	place, wrong = wrongCell(f.Cells)
	if wrong {
		return api.ErrCell, place
	}
	place, wrong = cellInRing(f.Cells)
	if wrong {
		return api.ErrCycle, place
	}
	place, wrong = wrongRule(f.Rules, len(f.Cells))
	if wrong {
		return api.ErrRule, place
	}
	return api.OK, 0
}

func sizesFit(f api.Form) bool {
	if len(f.Cells) < 1 || len(f.Cells) > api.MaxCells {
		return false
	}
	if len(f.Rules) > api.MaxRules {
		return false
	}
	return f.Week >= 1 && f.Week <= 127
}

// wrongHoliday answers MaxHolidays, the first place that is too many, if there are too many.
func wrongHoliday(holidays []int) (int, bool) {
	if len(holidays) > api.MaxHolidays {
		return api.MaxHolidays, true
	}
	return wrongInRow(holidays, 0, api.MaxDay)
}

// wrongInRow finds the first number that is not from least to most, or not greater than the one ahead of it.
func wrongInRow(numbers []int, least int, most int) (int, bool) {
	for i, number := range numbers {
		if number < least || number > most {
			return i, true
		}
		// The next must be greater; that this one is no more than most keeps the sum from overflowing.
		least = number + 1
	}
	return 0, false
}

func wrongCell(cells []api.Cell) (int, bool) {
	for i, c := range cells {
		if !kind.Known(c.Kind) {
			return i, true
		}
		if !kind.AllowsK(c.Kind, c.K) {
			return i, true
		}
		if !needsExist(c, len(cells)) {
			return i, true
		}
	}
	return 0, false
}

func needsExist(c api.Cell, count int) bool {
	needs := kind.Needs(c.Kind)
	for place := 0; place < needs; place++ {
		need := kind.Need(c, place)
		if need < 0 || need >= count {
			return false
		}
	}
	return true
}

func wrongRule(rules []api.Rule, count int) (int, bool) {
	for i, r := range rules {
		if r.Guard < 0 || r.Guard >= count {
			return i, true
		}
		if len(r.Steps) > api.MaxSteps {
			return i, true
		}
		_, wrong := wrongInRow(r.Steps, 1, api.MaxTime)
		if wrong {
			return i, true
		}
	}
	return 0, false
}
