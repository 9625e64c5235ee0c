// Package docket: cases whose cells hang on the clock, and rules that fire: see DOC.md.
package docket

import (
	"docket/api"
	"docket/cells"
	"docket/check"
	"docket/kind"
	"docket/text"
)

// Case is a form that is filled in, with a clock and a log.
type Case struct {
	// An Input is worth K until it is filled in, so what is filled in takes the place of its K here.
	form   api.Form
	now    int
	closed bool
	states []api.State // one for each rule
	log    []api.Event
}

// New makes a case (P3).
func New(f api.Form) (*Case, api.Errno, int) {
	wrong, place := check.Form(f)
	if wrong != api.OK {
		return nil, wrong, place
	}
	c := &Case{form: copyForm(f), states: make([]api.State, len(f.Rules))}
	values := c.values()
	c.settle(values)
	return c, api.OK, 0
}

// copyForm makes a form that shares no list with f: what is handed in is the caller's to write into.
func copyForm(f api.Form) api.Form {
	var own api.Form
	own.Week = f.Week
	own.Cells = append([]api.Cell{}, f.Cells...)
	own.Holidays = append([]int{}, f.Holidays...)
	for _, r := range f.Rules {
		steps := append([]int{}, r.Steps...)
		own.Rules = append(own.Rules, api.Rule{Guard: r.Guard, Steps: steps})
	}
	return own
}

// Set fills a cell in (P5).
func (c *Case) Set(cell int, value int) api.Errno {
	if c.closed {
		return api.ErrClosed
	}
	if !c.hasCell(cell) {
		return api.ErrName
	}
	if c.form.Cells[cell].Kind != api.Input {
		return api.ErrField
	}
	if !kind.IsValue(value) {
		return api.ErrValue
	}
	c.form.Cells[cell].K = value
	values := c.values()
	c.settle(values)
	return api.OK
}

// Value tells a cell's value (P4).
func (c *Case) Value(cell int) (int, api.Errno) {
	if !c.hasCell(cell) {
		return 0, api.ErrName
	}
	values := c.values()
	return values[cell], api.OK
}

func (c *Case) hasCell(cell int) bool {
	return cell >= 0 && cell < len(c.form.Cells)
}

// Advance lets the clock go on (P6).
func (c *Case) Advance(to int) api.Errno {
	if to < c.now || to > api.MaxTime {
		return api.ErrTime
	}
	values := c.values()
	turn, turns := c.nextTurn(values)
	for turns && turn <= to {
		c.now = turn
		values = c.values()
		c.settle(values)
		turn, turns = c.nextTurn(values)
	}
	c.now = to
	return api.OK
}

// Now tells the present instant (P6).
func (c *Case) Now() int { return c.now }

// Rule tells a rule's state (P7).
func (c *Case) Rule(rule int) (api.State, api.Errno) {
	if !c.hasRule(rule) {
		return api.State{}, api.ErrName
	}
	return c.states[rule], api.OK
}

func (c *Case) hasRule(rule int) bool {
	return rule >= 0 && rule < len(c.states)
}

// Log lists the events from a number on (P7).
func (c *Case) Log(from int) []api.Event {
	if from >= len(c.log) {
		return nil
	}
	if from < 0 {
		from = 0
	}
	// The list is the caller's to write into, so it must not be the case's own.
	return append([]api.Event{}, c.log[from:]...)
}

// Ack acknowledges a rule (P8).
func (c *Case) Ack(rule int) api.Errno {
	if c.closed {
		return api.ErrClosed
	}
	if !c.hasRule(rule) {
		return api.ErrName
	}
	if !c.states[rule].Lit || c.states[rule].Acked {
		return api.ErrIdle
	}
	c.states[rule].Acked = true
	return api.OK
}

// Close closes the case (P9).
func (c *Case) Close() api.Errno {
	if c.closed {
		return api.ErrClosed
	}
	c.closed = true
	for i := range c.states {
		c.states[i] = api.State{}
	}
	return api.OK
}

// Next tells when something changes next (P10).
func (c *Case) Next() (int, bool) {
	values := c.values()
	return c.nextTurn(values)
}

// When tells when a cell changes next (P11).
func (c *Case) When(cell int) (int, bool, api.Errno) {
	if !c.hasCell(cell) {
		return 0, false, api.ErrName
	}
	turn, turns := cells.When(c.form, cell, c.now)
	return turn, turns, api.OK
}

// Fork makes a second case like this one (P12).
func (c *Case) Fork() *Case {
	return &Case{
		form:   copyForm(c.form),
		now:    c.now,
		closed: c.closed,
		states: append([]api.State{}, c.states...),
		log:    append([]api.Event{}, c.log...),
	}
}

// Print writes a form as a text (P13).
func Print(f api.Form) (string, api.Errno) {
	wrong, _ := check.Form(f)
	if wrong != api.OK {
		return "", wrong
	}
	return text.Write(f), api.OK
}

// Parse reads the text of a form (P14).
func Parse(s string) (api.Form, api.Errno, int) {
	f, place, isText := text.Read(s)
	if !isText {
		return api.Form{}, api.ErrText, place
	}
	wrong, place := check.Form(f)
	if wrong != api.OK {
		return api.Form{}, wrong, place
	}
	return f, api.OK, 0
}
