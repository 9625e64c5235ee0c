package docket_test

import (
	"math/rand"
	"slices"
	"testing"

	"docket/api"
	"docket/cells"
	"docket/docket"
)

// busy is a form of which much happens from instant 0 to some hundred.
func busy(r *rand.Rand) api.Form {
	n := 3 + r.Intn(18)
	f := api.Form{Week: 127, Cells: make([]api.Cell, n)}
	places := r.Perm(n)
	for i, place := range places {
		c := api.Cell{Kind: api.Input}
		if i > 2 {
			c.Kind = []int{api.Const, api.Add, api.Sub, api.Mul, api.Less, api.Same, api.If, api.Past, api.Past, api.Age}[r.Intn(10)]
			c.A, c.B, c.C = places[r.Intn(i)], places[r.Intn(i)], places[r.Intn(i)]
		}
		switch c.Kind {
		case api.Input, api.Const:
			c.K = []int{r.Intn(3), r.Intn(200), r.Intn(200) - 1000000}[r.Intn(3)]
		case api.Age:
			c.K = 1000000
		}
		f.Cells[place] = c
	}
	for range r.Intn(7) {
		rule := api.Rule{Guard: r.Intn(n)}
		for last := 0; len(rule.Steps) < r.Intn(5); {
			last += 1 + r.Intn(40)
			rule.Steps = append(rule.Steps, last)
		}
		f.Rules = append(f.Rules, rule)
	}
	return f
}

// model is a case whose clock goes on instant by instant. Its form is its own.
type model struct {
	form   api.Form
	now    int
	closed bool
	states []api.State
	log    []api.Event
}

func newModel(f api.Form) *model {
	f.Cells = slices.Clone(f.Cells)
	m := &model{form: f, states: make([]api.State, len(f.Rules))}
	m.settle()
	return m
}

func (m *model) fork() *model {
	f := m.form
	f.Cells = slices.Clone(f.Cells)
	return &model{form: f, now: m.now, closed: m.closed, states: slices.Clone(m.states), log: slices.Clone(m.log)}
}

func (m *model) values() []int { return cells.Values(m.form, m.now) }

// settle is the document's word "to settle", said once more.
func (m *model) settle() {
	if m.closed {
		return
	}
	values := m.values()
	for i, r := range m.form.Rules {
		s := &m.states[i]
		level := 0
		switch {
		case values[r.Guard] == 0:
			*s = api.State{}
			continue
		case !s.Lit:
			*s = api.State{Lit: true, Since: m.now}
		case s.Level < len(r.Steps) && !s.Acked && m.now == s.Since+r.Steps[s.Level]:
			level = s.Level + 1
			s.Level = level
		default:
			continue
		}
		m.log = append(m.log, api.Event{At: m.now, Rule: i, Level: level})
	}
}

func (m *model) advance(to int) {
	for m.now < to {
		m.now++
		m.settle()
	}
}

// ahead lets a fork's clock go on to the instant last, and tells when first something happens
// and when each cell first has another value than now; 0, where nothing does up to then.
func (m *model) ahead(last int) (int, []int) {
	m = m.fork()
	present, events := m.values(), len(m.log)
	next, whens := 0, make([]int, len(present))
	for m.now < last {
		m.advance(m.now + 1)
		for cell, v := range m.values() {
			if v != present[cell] && whens[cell] == 0 {
				whens[cell] = m.now
			}
		}
		if next == 0 && (len(m.log) > events || slices.Contains(whens, m.now)) {
			next = m.now
		}
	}
	return next, whens
}

func (m *model) set(cell, value int) api.Errno {
	if m.closed {
		return api.ErrClosed
	}
	if m.form.Cells[cell].Kind != api.Input {
		return api.ErrField
	}
	m.form.Cells[cell].K = value
	m.settle()
	return api.OK
}

func (m *model) ack(rule int) api.Errno {
	if m.closed {
		return api.ErrClosed
	}
	if rule >= len(m.states) {
		return api.ErrName
	}
	if m.states[rule].Acked || !m.states[rule].Lit {
		return api.ErrIdle
	}
	m.states[rule].Acked = true
	return api.OK
}

func (m *model) close() api.Errno {
	if m.closed {
		return api.ErrClosed
	}
	m.closed = true
	clear(m.states)
	return api.OK
}

// play lets a case and its model do the same.
func play(t *testing.T, r *rand.Rand, c *docket.Case, m *model) {
	t.Helper()
	to := m.now + []int{0, 1, r.Intn(20), r.Intn(300)}[r.Intn(4)]
	advance(t, c, to)
	m.advance(to)
	for range 6 {
		cell, value := r.Intn(len(m.form.Cells)), r.Intn(400)
		set(t, c, cell, value, m.set(cell, value))
	}
	if r.Intn(2) == 0 {
		number := r.Intn(7)
		ack(t, c, number, m.ack(number))
	}
	if r.Intn(40) == 0 {
		closes(t, c, m.close())
	}
}

// proof counts what happened in random cases: of too little of it they would prove nothing.
type proof struct{ levels, again, acked, closed int }

func (p *proof) count(m *model) {
	lit := make([]int, len(m.states))
	for _, e := range m.log {
		p.levels += e.Level
		if e.Level == 0 {
			lit[e.Rule]++
		}
	}
	for i, s := range m.states {
		p.again += max(0, lit[i]-1)
		if s.Acked {
			p.acked++
		}
	}
	if m.closed {
		p.closed++
	}
}

func TestOneGoIsAsInstantByInstant(t *testing.T) {
	r := rand.New(rand.NewSource(3))
	var p proof
	for range 1500 {
		f := busy(r)
		c, m := begin(t, f), newModel(f)
		for m.now < 300 && !t.Failed() {
			play(t, r, c, m)
			logged(t, c, m.log...)
			state(t, c, m.states...)
		}
		if t.Failed() {
			t.Fatalf("P6 to P9: the form is %+v", f)
		}
		p.count(m)
	}
	if p.levels < 1000 || p.again < 300 || p.acked < 300 || p.closed < 100 {
		t.Errorf("the random cases prove little: %+v", p)
	}
}
