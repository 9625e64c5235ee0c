package check

import (
	"math/rand"
	"testing"

	"docket/api"
)

const (
	least    = -1 << 63
	greatest = 1<<63 - 1
)

func constant(k int) api.Cell { return api.Cell{Kind: api.Const, K: k} }

func add(a, b int) api.Cell { return api.Cell{Kind: api.Add, A: a, B: b} }

func choose(a, b, c int) api.Cell { return api.Cell{Kind: api.If, A: a, B: b, C: c} }

func one(kind, a, k int) api.Cell { return api.Cell{Kind: kind, A: a, K: k} }

func good(cells ...api.Cell) api.Form { return api.Form{Week: 31, Cells: cells} }

func expect(t *testing.T, what string, f api.Form, wrong api.Errno, place int) {
	t.Helper()
	e, at := Form(f)
	if e != wrong || at != place {
		t.Errorf("P3: %s: %d and %d, want %d and %d", what, e, at, wrong, place)
	}
}

func TestSizes(t *testing.T) {
	f := good(constant(0))
	expect(t, "one cell", f, api.OK, 0)
	f.Cells = nil
	expect(t, "no cell", f, api.ErrForm, 0)
	f.Cells = make([]api.Cell, 20)
	expect(t, "20 cells", f, api.OK, 0)
	f.Cells = make([]api.Cell, 21)
	expect(t, "21 cells", f, api.ErrForm, 0)
	f.Cells = f.Cells[:1]
	f.Rules = make([]api.Rule, 6)
	expect(t, "6 rules", f, api.OK, 0)
	f.Rules = make([]api.Rule, 7)
	expect(t, "7 rules", f, api.ErrForm, 0)
}

func TestWeek(t *testing.T) {
	for week, wrong := range map[int]api.Errno{
		0: api.ErrForm, -1: api.ErrForm, 128: api.ErrForm, 1 << 32: api.ErrForm, least: api.ErrForm, greatest: api.ErrForm,
		1: api.OK, 64: api.OK, 127: api.OK,
	} {
		f := good(constant(0))
		f.Week = week
		expect(t, "a week", f, wrong, 0)
	}
}

func rising(n int) []int {
	var l []int
	for i := range n {
		l = append(l, i)
	}
	return l
}

func TestHolidays(t *testing.T) {
	for _, c := range []struct {
		what     string
		holidays []int
		wrong    api.Errno
		place    int
	}{
		{"none", []int{}, api.OK, 0},
		{"the edges", []int{0, 11574}, api.OK, 0},
		{"20", rising(20), api.OK, 0},
		{"21", rising(21), api.ErrCalendar, 20},
		{"22, all wrong", make([]int, 22), api.ErrCalendar, 20},
		{"below 0", []int{-1}, api.ErrCalendar, 0},
		{"too late", []int{4, 11575}, api.ErrCalendar, 1},
		{"the same", []int{3, 4, 4, 5}, api.ErrCalendar, 2},
		{"falling", []int{3, 5, 4, 1}, api.ErrCalendar, 2},
		{"far off", []int{1, greatest}, api.ErrCalendar, 1},
		{"far below", []int{least}, api.ErrCalendar, 0},
	} {
		f := good(constant(0))
		f.Holidays = c.holidays
		expect(t, "holidays, "+c.what, f, c.wrong, c.place)
	}
}

func TestCells(t *testing.T) {
	for _, c := range []struct {
		what  string
		cell  api.Cell
		wrong bool
	}{
		{"the kind -1", api.Cell{Kind: -1}, true},
		{"the kind 13", api.Cell{Kind: 13}, true},
		{"a great kind", api.Cell{Kind: greatest}, true},
		{"the greatest constant", constant(2000000000), false},
		{"a constant too great", constant(2000000001), true},
		{"the least input", one(api.Input, 0, -2000000000), false},
		{"an input too small", one(api.Input, 0, -2000000001), true},
		{"A is none", one(api.Past, 2, 0), true},
		{"A is below 0", one(api.Past, -1, 0), true},
		{"B is none", add(0, 2), true},
		{"B is below 0", add(0, -1), true},
		{"C is none", choose(0, 0, 2), true},
		{"C is below 0", choose(0, 0, least), true},
		{"a short unit", one(api.Age, 0, 999999), true},
		{"the shortest unit", one(api.Age, 0, 1000000), false},
		{"the longest unit", one(api.Age, 0, 1000000000), false},
		{"a long unit", one(api.Age, 0, 1000000001), true},
		{"-1 working days", one(api.Due, 0, -1), true},
		{"no working days", one(api.Due, 0, 0), false},
		{"250 working days", one(api.Due, 0, 250), false},
		{"251 working days", one(api.Due, 0, 251), true},
		{"an Age of none", one(api.Age, 2, 1000000), true},
		{"a Due of none", one(api.Due, 2, 0), true},
		{"what Const does not name", api.Cell{Kind: api.Const, A: 99, B: -1, C: greatest}, false},
		{"what Input does not name", api.Cell{Kind: api.Input, A: 99, B: -1, C: greatest}, false},
		{"what Past does not name", api.Cell{Kind: api.Past, B: least, C: 99, K: greatest}, false},
		{"what Age does not name", api.Cell{Kind: api.Age, B: least, C: 99, K: 1000000}, false},
		{"what Same does not name", api.Cell{Kind: api.Same, C: 99, K: least}, false},
		{"what If does not name", api.Cell{Kind: api.If, K: least}, false},
	} {
		wrong, place := api.OK, 0
		if c.wrong {
			wrong, place = api.ErrCell, 1
		}
		expect(t, c.what, good(constant(0), c.cell), wrong, place)
	}
	expect(t, "the first of two wrong cells", good(constant(0), add(0, 9), api.Cell{Kind: 13}), api.ErrCell, 1)
}

func TestEveryKindIsChecked(t *testing.T) {
	needs := []int{0, 0, 2, 2, 2, 2, 2, 2, 2, 3, 1, 1, 1}
	for kind, count := range needs {
		for place := range 3 {
			c := api.Cell{Kind: kind, K: 0}
			if kind == api.Age {
				c.K = api.MinUnit
			}
			*[]*int{&c.A, &c.B, &c.C}[place] = 2
			wrong, at := api.OK, 0
			if place < count {
				wrong, at = api.ErrCell, 1
			}
			expect(t, "a cell that names none", good(constant(0), c), wrong, at)
		}
	}
}

func TestRings(t *testing.T) {
	for _, c := range []struct {
		what  string
		cells []api.Cell
		wrong api.Errno
		place int
	}{
		{"one leads into a ring of two", []api.Cell{add(1, 1), add(2, 2), add(1, 1)}, api.ErrCycle, 1},
		{"a cell that needs itself by A", []api.Cell{one(api.Past, 0, 0)}, api.ErrCycle, 0},
		{"a cell that needs itself by B", []api.Cell{constant(0), add(0, 1)}, api.ErrCycle, 1},
		{"a cell that needs itself by C", []api.Cell{constant(0), choose(0, 0, 1)}, api.ErrCycle, 1},
		{"a number that no row names makes no ring", []api.Cell{constant(0), {Kind: api.Past, A: 0, B: 1, C: 1}, {Kind: api.Const, A: 2}}, api.OK, 0},
		{"needed twice is no ring", []api.Cell{add(1, 2), add(2, 2), constant(0)}, api.OK, 0},
		{"two rings", []api.Cell{constant(0), add(4, 0), add(3, 0), add(2, 0), add(1, 0)}, api.ErrCycle, 1},
	} {
		expect(t, c.what, good(c.cells...), c.wrong, c.place)
	}
}

func TestLongRings(t *testing.T) {
	up := make([]api.Cell, 20)
	down := make([]api.Cell, 20)
	for i := range up {
		up[i] = add((i+1)%20, (i+1)%20)
		down[i] = add((i+19)%20, (i+19)%20)
	}
	expect(t, "a ring of 20, upwards", good(up...), api.ErrCycle, 0)
	expect(t, "a ring of 20, downwards", good(down...), api.ErrCycle, 0)
	up[19] = constant(0)
	expect(t, "20 in a row, upwards", good(up...), api.OK, 0)
	down[0] = constant(0)
	expect(t, "20 in a row, downwards", good(down...), api.OK, 0)
}

// firstInRing closes the relation step by step, as a second way to the same answer.
func firstInRing(cells []api.Cell) (int, bool) {
	var leads [20][20]bool
	for i, c := range cells {
		if c.Kind == api.Add || c.Kind == api.If {
			leads[i][c.A] = true
			leads[i][c.B] = true
		}
		if c.Kind == api.If {
			leads[i][c.C] = true
		}
	}
	for k := range cells {
		for i := range cells {
			for j := range cells {
				leads[i][j] = leads[i][j] || leads[i][k] && leads[k][j]
			}
		}
	}
	for i := range cells {
		if leads[i][i] {
			return i, true
		}
	}
	return 0, false
}

func TestRingsOfRandomForms(t *testing.T) {
	r := rand.New(rand.NewSource(1))
	rings := 0
	for range 20000 {
		n := 1 + r.Intn(20)
		cells := make([]api.Cell, n)
		for i := range cells {
			c := api.Cell{A: r.Intn(n), B: r.Intn(n), C: r.Intn(n)}
			c.Kind = []int{api.Const, api.Const, api.Const, api.Add, api.If}[r.Intn(5)]
			cells[i] = c
		}
		place, found := firstInRing(cells)
		wrong := api.OK
		if found {
			wrong = api.ErrCycle
			rings++
		}
		expect(t, "a random form", good(cells...), wrong, place)
	}
	if rings < 1000 || rings > 19000 {
		t.Errorf("the random forms prove little: %d have a ring", rings)
	}
}

func TestRules(t *testing.T) {
	for _, c := range []struct {
		what  string
		rule  api.Rule
		wrong bool
	}{
		{"no steps", api.Rule{Guard: 1}, false},
		{"the guard 2", api.Rule{Guard: 2}, true},
		{"the guard -1", api.Rule{Guard: -1}, true},
		{"a great guard", api.Rule{Guard: greatest}, true},
		{"four steps, to the edges", api.Rule{Steps: []int{1, 2, 3, 1000000000}}, false},
		{"five steps", api.Rule{Steps: []int{1, 2, 3, 4, 5}}, true},
		{"the step 0", api.Rule{Steps: []int{0, 1}}, true},
		{"a step below 0", api.Rule{Steps: []int{least}}, true},
		{"a step too long", api.Rule{Steps: []int{1, 1000000001}}, true},
		{"the same step", api.Rule{Steps: []int{5, 5}}, true},
		{"falling steps", api.Rule{Steps: []int{5, 4}}, true},
	} {
		wrong, place := api.OK, 0
		if c.wrong {
			wrong, place = api.ErrRule, 1
		}
		f := good(constant(0), constant(0))
		f.Rules = []api.Rule{{Guard: 0}, c.rule, {Guard: 1, Steps: []int{1}}}
		expect(t, "a rule with "+c.what, f, wrong, place)
	}
	f := good(constant(0))
	f.Rules = []api.Rule{{}, {Guard: 5}, {Guard: -1}}
	expect(t, "the first of two wrong rules", f, api.ErrRule, 1)
}

// Each error stands ahead of those that are named behind it.
func TestTheFirstErrorIsTold(t *testing.T) {
	f := api.Form{
		Week:     0,
		Holidays: []int{2, 1},
		Cells:    []api.Cell{constant(0), add(1, 1), add(9, 9)},
		Rules:    []api.Rule{{Guard: 7}},
	}
	expect(t, "all is wrong", f, api.ErrForm, 0)
	f.Week = 31
	expect(t, "all but the week is wrong", f, api.ErrCalendar, 1)
	f.Holidays = nil
	expect(t, "cells, a ring and a rule are wrong", f, api.ErrCell, 2)
	f.Cells[2] = constant(0)
	expect(t, "a ring and a rule are wrong", f, api.ErrCycle, 1)
	f.Cells[1] = constant(0)
	expect(t, "a rule is wrong", f, api.ErrRule, 0)
	f.Rules[0].Guard = 2
	expect(t, "nothing is wrong", f, api.OK, 0)
}
