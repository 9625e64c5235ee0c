package docket_test

import (
	"slices"
	"testing"

	"docket/api"
	"docket/docket"
)

func event(at, rule, level int) api.Event { return api.Event{At: at, Rule: rule, Level: level} }

func lit(since, level int) api.State { return api.State{Lit: true, Since: since, Level: level} }

func acked(since, level int) api.State {
	return api.State{Lit: true, Since: since, Level: level, Acked: true}
}

func logged(t *testing.T, c *docket.Case, want ...api.Event) {
	t.Helper()
	if log := c.Log(0); !slices.Equal(log, want) {
		t.Errorf("P7: at %d the log is %v, want %v", c.Now(), log, want)
	}
}

// state looks at all rules: there must be no more of them than there are states wanted.
func state(t *testing.T, c *docket.Case, want ...api.State) {
	t.Helper()
	for rule, w := range want {
		if s, wrong := c.Rule(rule); s != w || wrong != api.OK {
			t.Errorf("P7: at %d Rule(%d) = %v and %d, want %v", c.Now(), rule, s, wrong, w)
		}
	}
	if s, wrong := c.Rule(len(want)); s != (api.State{}) || wrong != api.ErrName {
		t.Errorf("P7: Rule(%d), which is not there, = %v and %d", len(want), s, wrong)
	}
}

func with(f api.Form, rules ...api.Rule) api.Form {
	f.Rules = rules
	return f
}

func rule(guard int, steps ...int) api.Rule { return api.Rule{Guard: guard, Steps: steps} }

// deadline is the first form of the document's examples.
func deadline(k int) api.Form {
	return with(form(input(k), one(api.Past, 0, 0)), rule(1, 10, 100))
}

func TestLogOfADeadline(t *testing.T) {
	c := begin(t, deadline(500))
	logged(t, c)
	advance(t, c, 499)
	logged(t, c)
	state(t, c, api.State{})
	advance(t, c, 505)
	logged(t, c, event(500, 0, 0))
	state(t, c, lit(500, 0))
	advance(t, c, 1000)
	logged(t, c, event(500, 0, 0), event(510, 0, 1), event(600, 0, 2))
	state(t, c, lit(500, 2))
	set(t, c, 0, 2000, api.OK)
	values(t, c, 2000, 0)
	state(t, c, api.State{})
	advance(t, c, 1000000000)
	logged(t, c, event(500, 0, 0), event(510, 0, 1), event(600, 0, 2),
		event(2000, 0, 0), event(2010, 0, 1), event(2100, 0, 2))
}

func TestNewAndSetSettle(t *testing.T) {
	c := begin(t, deadline(0))
	logged(t, c, event(0, 0, 0))
	state(t, c, lit(0, 0))
	set(t, c, 0, 1, api.OK)
	state(t, c, api.State{})
	set(t, c, 0, 0, api.OK)
	logged(t, c, event(0, 0, 0), event(0, 0, 0))
	advance(t, c, 10)
	set(t, c, 0, -5, api.OK)
	logged(t, c, event(0, 0, 0), event(0, 0, 0), event(10, 0, 1))
	state(t, c, lit(0, 1))
	set(t, c, 1, 0, api.ErrField)
	logged(t, c, event(0, 0, 0), event(0, 0, 0), event(10, 0, 1))
}

// A rule that goes out and is lit again at one instant begins anew: since now, at level 0, not acked.
func TestLitAgainAtOneInstant(t *testing.T) {
	c := begin(t, deadline(500))
	advance(t, c, 515)
	state(t, c, lit(500, 1))
	ack(t, c, 0, api.OK)
	set(t, c, 0, 516, api.OK)
	state(t, c, api.State{})
	set(t, c, 0, 500, api.OK)
	state(t, c, lit(515, 0))
	set(t, c, 0, 900, api.OK)
	set(t, c, 0, 515, api.OK)
	state(t, c, lit(515, 0))
	logged(t, c, event(500, 0, 0), event(510, 0, 1), event(515, 0, 0), event(515, 0, 0))
	advance(t, c, 615)
	logged(t, c, event(500, 0, 0), event(510, 0, 1), event(515, 0, 0), event(515, 0, 0), event(525, 0, 1), event(615, 0, 2))
	state(t, c, lit(515, 2))
}

// Any value but 0 is true, and a guard that goes from one such value to another was true all the time.
func TestGuardsAreTrueIfNotNought(t *testing.T) {
	c := begin(t, with(form(input(0)), rule(0, 5)))
	for i, value := range []int{-1, 2000000000, -2000000000, 1} {
		set(t, c, 0, value, api.OK)
		state(t, c, lit(0, 0))
		if log := c.Log(0); len(log) != 1 {
			t.Errorf("P7: after %d Sets the log is %v", i+1, log)
		}
	}
	set(t, c, 0, 0, api.OK)
	state(t, c, api.State{})
	logged(t, c, event(0, 0, 0))
}

func TestARuleGoesOutWithItsGuard(t *testing.T) {
	f := form(constant(250), one(api.Age, 0, 1000000), constant(2), two(api.Same, 1, 2))
	c := begin(t, with(f, rule(3)))
	advance(t, c, 2000249)
	state(t, c, api.State{})
	advance(t, c, 3000249)
	state(t, c, lit(2000250, 0))
	advance(t, c, 3000250)
	state(t, c, api.State{})
	logged(t, c, event(2000250, 0, 0))
}

func TestSeveralRulesAtOneInstant(t *testing.T) {
	f := with(deadline(500), rule(1, 20), rule(0, 500, 520), rule(1, 20))
	c := begin(t, f)
	advance(t, c, 1000000000)
	logged(t, c, event(0, 1, 0),
		event(500, 0, 0), event(500, 1, 1), event(500, 2, 0),
		event(520, 0, 1), event(520, 1, 2), event(520, 2, 1))
	state(t, c, lit(500, 1), lit(0, 2), lit(500, 1))
}

// The guard is looked at ahead of the step: a rule whose guard goes out when its level comes is not lit.
func TestOutWhenTheLevelComes(t *testing.T) {
	f := form(constant(0), one(api.Past, 0, 0), constant(50), one(api.Past, 2, 0), two(api.Sub, 1, 3))
	c := begin(t, with(f, rule(4, 49, 50, 51)))
	advance(t, c, 1000)
	logged(t, c, event(0, 0, 0), event(49, 0, 1))
	state(t, c, api.State{})
}

func TestTheLastInstantSettles(t *testing.T) {
	f := deadline(1000000000 - 10)
	f.Rules[0].Steps[1] = 11
	c := begin(t, f)
	advance(t, c, 1000000000)
	logged(t, c, event(999999990, 0, 0), event(1000000000, 0, 1))
	state(t, c, lit(999999990, 1))
}

func TestWrongInstantsLogNothing(t *testing.T) {
	c := begin(t, deadline(500))
	advance(t, c, 505)
	refuses(t, c, 504, 0, -1, 1000000001, greatest, least)
	advance(t, c, 505)
	logged(t, c, event(500, 0, 0))
	state(t, c, lit(500, 0))
}

// Years at one go, with a deadline that moves by itself and a rule that is lit again and again.
func TestYearsAtOneGo(t *testing.T) {
	f := form(
		constant(0), one(api.Age, 0, 1000000), constant(1000000), two(api.Mul, 1, 2),
		constant(600000), two(api.Add, 3, 4), one(api.Past, 5, 0),
	)
	f = with(f, rule(6, 399999, 400000))
	var want []api.Event
	for unit := range 1000 {
		want = append(want, event(unit*1000000+600000, 0, 0), event(unit*1000000+999999, 0, 1))
	}
	for _, by := range []int{1000000000, 600000, 77777777} {
		c := begin(t, f)
		for c.Now() < api.MaxTime {
			advance(t, c, min(c.Now()+by, api.MaxTime))
		}
		if log := c.Log(0); !slices.Equal(log, want) {
			t.Errorf("P6: by %d at a time the log has %d events, want %d", by, len(log), len(want))
		}
		state(t, c, api.State{})
	}
}

// The levels of a rule that is lit for years come one by one on the way.
func TestLevelsOverYears(t *testing.T) {
	f := with(form(input(250), one(api.Past, 0, 0)), rule(1, 1, 31536000, 315360000, 999999750), rule(1, 999999751), rule(1))
	want := []api.Event{
		event(250, 0, 0), event(250, 1, 0), event(250, 2, 0),
		event(251, 0, 1), event(31536250, 0, 2), event(315360250, 0, 3), event(1000000000, 0, 4),
	}
	for _, to := range [][]int{{1000000000}, {250, 251, 31536250, 315360250, 1000000000}, {249, 31536249, 315360251, 999999999, 1000000000}} {
		c := begin(t, f)
		for _, instant := range to {
			advance(t, c, instant)
		}
		logged(t, c, want...)
		state(t, c, lit(250, 4), lit(250, 0), lit(250, 0))
	}
}
