// Package rules: how a rule of a case goes from state to state.
package rules

import "docket/api"

// Settle tells the state that an open case's rule has once it has settled at an instant,
// and whether that is an event: the event's level is that of the state.
func Settle(r api.Rule, s api.State, guard int, now int) (api.State, bool) {
	if guard == 0 {
		return api.State{}, false
	}
	if !s.Lit {
		return api.State{Lit: true, Since: now}, true
	}
	step, waits := NextStep(r, s)
	if waits && step == now {
		s.Level++
		return s, true
	}
	return s, false
}

// NextStep tells at which instant a rule comes to its next level, if nothing comes between.
func NextStep(r api.Rule, s api.State) (int, bool) {
	if !s.Lit || s.Acked {
		return 0, false
	}
	if s.Level < 0 || s.Level >= len(r.Steps) {
		return 0, false
	}
	return s.Since + r.Steps[s.Level], true
}
