package docket

import (
	"math/rand"
	"slices"
	"testing"

	"docket/api"
	"docket/cells"
)

// No call shows the log and the states of rules yet, so they are looked at from inside.

func begin(t *testing.T, f api.Form) *Case {
	t.Helper()
	c, wrong, place := New(f)
	if wrong != api.OK {
		t.Fatalf("P3: New(%+v): %d and %d", f, wrong, place)
	}
	return c
}

func advance(t *testing.T, c *Case, to int) {
	t.Helper()
	if wrong := c.Advance(to); wrong != api.OK || c.Now() != to {
		t.Fatalf("P6: Advance(%d) = %d, Now = %d", to, wrong, c.Now())
	}
}

func set(t *testing.T, c *Case, cell, value int) {
	t.Helper()
	if wrong := c.Set(cell, value); wrong != api.OK {
		t.Fatalf("P5: Set(%d, %d) = %d", cell, value, wrong)
	}
}

func logged(t *testing.T, c *Case, want ...api.Event) {
	t.Helper()
	if !slices.Equal(c.log, want) {
		t.Errorf("P6: at %d the log is %v, want %v", c.now, c.log, want)
	}
}

func state(t *testing.T, c *Case, want ...api.State) {
	t.Helper()
	if !slices.Equal(c.states, want) {
		t.Errorf("P6: at %d the states are %v, want %v", c.now, c.states, want)
	}
}

// deadline is the first form of the document's examples.
func deadline(k int) api.Form {
	return api.Form{
		Week:  31,
		Cells: []api.Cell{{Kind: api.Input, K: k}, {Kind: api.Past, A: 0}},
		Rules: []api.Rule{{Guard: 1, Steps: []int{10, 100}}},
	}
}

func TestLogOfADeadline(t *testing.T) {
	c := begin(t, deadline(500))
	logged(t, c)
	advance(t, c, 499)
	logged(t, c)
	state(t, c, api.State{})
	advance(t, c, 505)
	logged(t, c, api.Event{At: 500})
	state(t, c, api.State{Lit: true, Since: 500})
	advance(t, c, 1000)
	logged(t, c, api.Event{At: 500}, api.Event{At: 510, Level: 1}, api.Event{At: 600, Level: 2})
	state(t, c, api.State{Lit: true, Since: 500, Level: 2})
	set(t, c, 0, 2000)
	state(t, c, api.State{})
	advance(t, c, 1000000000)
	logged(t, c, api.Event{At: 500}, api.Event{At: 510, Level: 1}, api.Event{At: 600, Level: 2},
		api.Event{At: 2000}, api.Event{At: 2010, Level: 1}, api.Event{At: 2100, Level: 2})
}

func TestNewAndSetSettle(t *testing.T) {
	c := begin(t, deadline(0))
	logged(t, c, api.Event{})
	set(t, c, 0, 1)
	state(t, c, api.State{})
	set(t, c, 0, 0)
	logged(t, c, api.Event{}, api.Event{})
	advance(t, c, 10)
	set(t, c, 0, -5)
	logged(t, c, api.Event{}, api.Event{}, api.Event{At: 10, Level: 1})
	state(t, c, api.State{Lit: true, Level: 1})
	if wrong := c.Set(1, 0); wrong != api.ErrField {
		t.Errorf("P5: Set of a Past = %d", wrong)
	}
	logged(t, c, api.Event{}, api.Event{}, api.Event{At: 10, Level: 1})
}

func TestARuleGoesOutWithItsGuard(t *testing.T) {
	f := api.Form{
		Week:  31,
		Cells: []api.Cell{{Kind: api.Const, K: 250}, {Kind: api.Age, A: 0, K: 1000000}, {Kind: api.Const, K: 2}, {Kind: api.Same, A: 1, B: 2}},
		Rules: []api.Rule{{Guard: 3}},
	}
	c := begin(t, f)
	advance(t, c, 2000249)
	state(t, c, api.State{})
	advance(t, c, 3000249)
	state(t, c, api.State{Lit: true, Since: 2000250})
	advance(t, c, 3000250)
	state(t, c, api.State{})
	logged(t, c, api.Event{At: 2000250})
}

func TestSeveralRulesAtOneInstant(t *testing.T) {
	f := deadline(500)
	f.Rules = []api.Rule{{Guard: 1, Steps: []int{20}}, {Guard: 0, Steps: []int{500, 520}}, {Guard: 1, Steps: []int{20}}}
	c := begin(t, f)
	advance(t, c, 1000000000)
	logged(t, c, api.Event{Rule: 1},
		api.Event{At: 500}, api.Event{At: 500, Rule: 1, Level: 1}, api.Event{At: 500, Rule: 2},
		api.Event{At: 520, Level: 1}, api.Event{At: 520, Rule: 1, Level: 2}, api.Event{At: 520, Rule: 2, Level: 1})
}

func TestTheLastInstantSettles(t *testing.T) {
	f := deadline(1000000000 - 10)
	f.Rules[0].Steps[1] = 11
	c := begin(t, f)
	advance(t, c, 1000000000)
	logged(t, c, api.Event{At: 999999990}, api.Event{At: 1000000000, Level: 1})
	state(t, c, api.State{Lit: true, Since: 999999990, Level: 1})
}

func TestAnAckedRuleStays(t *testing.T) {
	c := begin(t, deadline(500))
	advance(t, c, 550)
	c.states[0].Acked = true
	advance(t, c, 1000000000)
	logged(t, c, api.Event{At: 500}, api.Event{At: 510, Level: 1})
	state(t, c, api.State{Lit: true, Since: 500, Level: 1, Acked: true})
}

func TestAClosedCaseDoesNotSettle(t *testing.T) {
	c := begin(t, deadline(500))
	c.closed = true
	advance(t, c, 1000)
	logged(t, c)
	state(t, c, api.State{})
	if v, wrong := c.Value(1); v != 1 || wrong != api.OK {
		t.Errorf("P6: Past of a closed case = %d and %d", v, wrong)
	}
}

func TestWrongInstantsLogNothing(t *testing.T) {
	c := begin(t, deadline(500))
	advance(t, c, 505)
	for _, to := range []int{504, 0, -1, 1000000001, 1 << 62, -1 << 63} {
		if wrong := c.Advance(to); wrong != api.ErrTime {
			t.Errorf("P6: Advance(%d) = %d", to, wrong)
		}
	}
	advance(t, c, 505)
	logged(t, c, api.Event{At: 500})
	state(t, c, api.State{Lit: true, Since: 500})
}

// busy is a form of which much happens from instant 0 to some hundred.
func busy(r *rand.Rand) api.Form {
	n := 3 + r.Intn(18)
	f := api.Form{Week: 127, Cells: make([]api.Cell, n)}
	places := r.Perm(n)
	for i, place := range places {
		c := api.Cell{Kind: api.Input}
		if i > 2 {
			c.Kind = []int{api.Const, api.Add, api.Sub, api.Mul, api.Less, api.Same, api.If, api.Past, api.Past, api.Age}[r.Intn(10)]
			c.A, c.B, c.C = places[r.Intn(i)], places[r.Intn(i)], places[r.Intn(i)]
		}
		switch c.Kind {
		case api.Input, api.Const:
			c.K = []int{r.Intn(3), r.Intn(200), r.Intn(200) - 1000000}[r.Intn(3)]
		case api.Age:
			c.K = 1000000
		}
		f.Cells[place] = c
	}
	for range r.Intn(7) {
		rule := api.Rule{Guard: r.Intn(n)}
		for last := 0; len(rule.Steps) < r.Intn(5); {
			last += 1 + r.Intn(40)
			rule.Steps = append(rule.Steps, last)
		}
		f.Rules = append(f.Rules, rule)
	}
	return f
}

// word is the document's word "to settle", said once more.
func word(c *Case, values []int) {
	for i, r := range c.form.Rules {
		s := &c.states[i]
		level := 0
		switch {
		case values[r.Guard] == 0:
			*s = api.State{}
			continue
		case !s.Lit:
			*s = api.State{Lit: true, Since: c.now}
		case s.Level < len(r.Steps) && !s.Acked && c.now == s.Since+r.Steps[s.Level]:
			level = s.Level + 1
			s.Level = level
		default:
			continue
		}
		c.log = append(c.log, api.Event{At: c.now, Rule: i, Level: level})
	}
}

// byInstants is Advance, instant by instant.
func byInstants(c *Case, to int) {
	for c.now < to {
		c.now++
		word(c, cells.Values(c.form, c.now))
	}
}

func TestOneGoIsAsInstantByInstant(t *testing.T) {
	r := rand.New(rand.NewSource(3))
	levels, again := 0, 0
	for range 1500 {
		f := busy(r)
		c := begin(t, f)
		slow := begin(t, f)
		for c.now < 300 {
			to := c.now + []int{0, 1, r.Intn(20), r.Intn(300)}[r.Intn(4)]
			advance(t, c, to)
			byInstants(slow, to)
			if !slices.Equal(c.log, slow.log) || !slices.Equal(c.states, slow.states) || slow.now != c.now {
				t.Fatalf("P6: %+v at %d: %v and %v, want %v and %v", f, to, c.log, c.states, slow.log, slow.states)
			}
			for range 6 {
				cell := r.Intn(len(f.Cells))
				value := r.Intn(400)
				if c.Set(cell, value) == api.OK {
					slow.form.Cells[cell].K = value
					word(slow, cells.Values(slow.form, slow.now))
				}
			}
		}
		lit := make([]int, len(f.Rules))
		for _, e := range c.log {
			levels += e.Level
			if e.Level == 0 {
				lit[e.Rule]++
			}
		}
		for _, count := range lit {
			again += max(0, count-1)
		}
	}
	if levels < 1000 || again < 300 {
		t.Errorf("the random cases prove little: %d levels, %d rules lit again", levels, again)
	}
}

// Years at one go, with a deadline that moves by itself and a rule that is lit again and again.
func TestYearsAtOneGo(t *testing.T) {
	f := api.Form{
		Week: 31,
		Cells: []api.Cell{
			{Kind: api.Const}, {Kind: api.Age, A: 0, K: 1000000}, {Kind: api.Const, K: 1000000}, {Kind: api.Mul, A: 1, B: 2},
			{Kind: api.Const, K: 600000}, {Kind: api.Add, A: 3, B: 4}, {Kind: api.Past, A: 5},
		},
		Rules: []api.Rule{{Guard: 6, Steps: []int{399999, 400000}}},
	}
	var want []api.Event
	for unit := range 1000 {
		want = append(want, api.Event{At: unit*1000000 + 600000}, api.Event{At: unit*1000000 + 999999, Level: 1})
	}
	for _, by := range []int{1000000000, 600000, 77777777} {
		c := begin(t, f)
		for c.now < api.MaxTime {
			advance(t, c, min(c.now+by, api.MaxTime))
		}
		if !slices.Equal(c.log, want) {
			t.Errorf("P6: by %d at a time the log has %d events, want %d", by, len(c.log), len(want))
		}
		state(t, c, api.State{})
	}
}
