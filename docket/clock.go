package docket

import (
	"docket/api"
	"docket/cells"
	"docket/rules"
)

// values tells what each cell is worth at the present instant.
func (c *Case) values() []int {
	return cells.Values(c.form, c.now)
}

// nextTurn tells the first instant behind the present one, up to MaxTime, at which a cell has
// another value or a rule comes to its next level. Till then every guard stays as it is, so a
// level whose instant is the first does come; and nothing can settle otherwise than now, so the
// clock may leave the instants between out.
func (c *Case) nextTurn(values []int) (int, bool) {
	first, turns := cells.Turn(c.form, values, c.now)
	for i, r := range c.form.Rules {
		step, waits := rules.NextStep(r, c.states[i])
		if !waits || step <= c.now || step > api.MaxTime {
			continue
		}
		if !turns || step < first {
			first, turns = step, true
		}
	}
	return first, turns
}

// settle lets each rule look at its guard, in the order of their numbers, if the case is open.
func (c *Case) settle(values []int) {
	if c.closed {
		return
	}
	for i, r := range c.form.Rules {
		state, fires := rules.Settle(r, c.states[i], values[r.Guard], c.now)
		c.states[i] = state
		if fires {
			c.log = append(c.log, api.Event{At: c.now, Rule: i, Level: state.Level})
		}
	}
}
