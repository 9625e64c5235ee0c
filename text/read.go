package text

import (
	"docket/api"
	"docket/kind"
)

// Read reads the form that is written in a text, whether or not it has an error.
// If s is no text, it answers the place of the error and false.
func Read(s string) (api.Form, int, bool) {
	r := &reader{s: s}
	f, isText := r.form()
	if !isText {
		return api.Form{}, r.at, false
	}
	return f, 0, true
}

// form reads all there is: a line that stands out of its order is left over, and what is left over is no text.
func (r *reader) form() (api.Form, bool) {
	f, fits := r.calendar()
	if !fits {
		return api.Form{}, false
	}
	for r.take('c') {
		c, fits := r.cell()
		if !fits {
			return api.Form{}, false
		}
		f.Cells = append(f.Cells, c)
	}
	for r.take('r') {
		rule, fits := r.rule()
		if !fits {
			return api.Form{}, false
		}
		f.Rules = append(f.Rules, rule)
	}
	return f, r.at == len(r.s)
}

// calendar reads the first line: a form that has a week and holidays alone.
func (r *reader) calendar() (api.Form, bool) {
	if !r.take('w') {
		return api.Form{}, false
	}
	week, fits := r.number()
	if !fits {
		return api.Form{}, false
	}
	holidays, fits := r.numbers()
	return api.Form{Week: week, Holidays: holidays}, fits
}

// cell reads the rest of a line behind its letter.
func (r *reader) cell() (api.Cell, bool) {
	which, fits := r.kind()
	if !fits {
		return api.Cell{}, false
	}
	count := kind.Needs(which)
	needs, fits := r.needs(count)
	if !fits {
		return api.Cell{}, false
	}
	k := 0
	if kind.HasK(which) {
		k, fits = r.number()
	}
	if !fits || !r.take('\n') {
		return api.Cell{}, false
	}
	return api.Cell{Kind: which, A: needs[0], B: needs[1], C: needs[2], K: k}, true
}

// needs reads A, B and C as far as there are so many; the others are 0.
func (r *reader) needs(count int) ([3]int, bool) {
	var needs [3]int
	for place := 0; place < count && place < len(needs); place++ {
		n, fits := r.number()
		if !fits {
			return needs, false
		}
		needs[place] = n
	}
	return needs, true
}

// rule reads the rest of a line behind its letter.
func (r *reader) rule() (api.Rule, bool) {
	guard, fits := r.number()
	if !fits {
		return api.Rule{}, false
	}
	steps, fits := r.numbers()
	return api.Rule{Guard: guard, Steps: steps}, fits
}
