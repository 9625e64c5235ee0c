package docket_test

import (
	"slices"
	"testing"

	"docket/api"
	"docket/docket"
)

const (
	least    = -1 << 63
	greatest = 1<<63 - 1
)

func input(k int) api.Cell { return api.Cell{Kind: api.Input, K: k} }

func constant(k int) api.Cell { return api.Cell{Kind: api.Const, K: k} }

func two(kind, a, b int) api.Cell { return api.Cell{Kind: kind, A: a, B: b} }

func one(kind, a, k int) api.Cell { return api.Cell{Kind: kind, A: a, K: k} }

func form(cells ...api.Cell) api.Form { return api.Form{Week: 31, Cells: cells} }

func begin(t *testing.T, f api.Form) *docket.Case {
	t.Helper()
	c, wrong, place := docket.New(f)
	if c == nil || wrong != api.OK || place != 0 {
		t.Fatalf("P3: New: %d and %d", wrong, place)
	}
	return c
}

func set(t *testing.T, c *docket.Case, cell, value int, want api.Errno) {
	t.Helper()
	if wrong := c.Set(cell, value); wrong != want {
		t.Errorf("P5: Set(%d, %d) = %d, want %d", cell, value, wrong, want)
	}
}

func values(t *testing.T, c *docket.Case, want ...int) {
	t.Helper()
	for cell, v := range want {
		if got, wrong := c.Value(cell); got != v || wrong != api.OK {
			t.Errorf("P4: Value(%d) = %d and %d, want %d", cell, got, wrong, v)
		}
	}
}

func TestNewRefuses(t *testing.T) {
	holidays := form(constant(0))
	holidays.Holidays = []int{1, 1}
	many := form(constant(0))
	many.Holidays = make([]int, 1000)
	rule := form(constant(0))
	rule.Rules = []api.Rule{{Guard: 0}, {Guard: 0, Steps: []int{2, 1}}}
	for _, c := range []struct {
		what  string
		f     api.Form
		wrong api.Errno
		place int
	}{
		{"nothing", api.Form{}, api.ErrForm, 0},
		{"no cells", form(), api.ErrForm, 0},
		{"a thousand cells", form(make([]api.Cell, 1000)...), api.ErrForm, 0},
		{"holidays that do not rise", holidays, api.ErrCalendar, 1},
		{"a thousand holidays", many, api.ErrCalendar, 20},
		{"a cell that is not there", form(two(api.Add, 1, 1)), api.ErrCell, 0},
		{"a ring", form(two(api.Add, 1, 1), two(api.Add, 2, 2), two(api.Add, 1, 1)), api.ErrCycle, 1},
		{"a cell that needs itself", form(two(api.Add, 0, 0)), api.ErrCycle, 0},
		{"falling steps", rule, api.ErrRule, 1},
	} {
		x, wrong, place := docket.New(c.f)
		if x != nil || wrong != c.wrong || place != c.place {
			t.Errorf("P3: New of %s: %d and %d, want %d and %d", c.what, wrong, place, c.wrong, c.place)
		}
	}
}

func TestNewBeginsAtInstantNought(t *testing.T) {
	c := begin(t, form(input(500), one(api.Past, 0, 0), constant(0), one(api.Past, 2, 0)))
	values(t, c, 500, 0, 0, 1)
	if now := c.Now(); now != 0 {
		t.Errorf("P3: Now is %d", now)
	}
}

func TestValueOfWhatHangsOnTheClock(t *testing.T) {
	c := begin(t, form(constant(250), one(api.Age, 0, 1000000), constant(-2000250), one(api.Age, 2, 1000000), one(api.Past, 2, 0)))
	values(t, c, 250, 0, -2000250, 2, 1)
}

func TestDueOfTheExamples(t *testing.T) {
	f := form(input(0), one(api.Due, 0, 0), one(api.Due, 0, 1))
	f.Holidays = []int{7, 8}
	c := begin(t, f)
	values(t, c, 0, 0, 86400)
	set(t, c, 0, 345600, api.OK)
	values(t, c, 345600, 345600, 777600)
	set(t, c, 0, -1, api.OK)
	values(t, c, -1, -86400, 0)
}

func TestMulOfTheExamples(t *testing.T) {
	c := begin(t, form(constant(2000000000), two(api.Mul, 0, 0), constant(-1), two(api.Mul, 0, 2)))
	values(t, c, 2000000000, 2000000000, -1, -2000000000)
}

func TestSetFillsIn(t *testing.T) {
	c := begin(t, form(input(7), two(api.Add, 0, 2), input(-7)))
	values(t, c, 7, 0, -7)
	set(t, c, 0, 10, api.OK)
	values(t, c, 10, 3, -7)
	set(t, c, 2, 2000000000, api.OK)
	values(t, c, 10, 2000000000, 2000000000)
	set(t, c, 0, -2000000000, api.OK)
	values(t, c, -2000000000, 0, 2000000000)
	set(t, c, 0, 0, api.OK)
	set(t, c, 2, 0, api.OK)
	values(t, c, 0, 0, 0)
}

func TestSetRefusesAndChangesNothing(t *testing.T) {
	c := begin(t, form(input(7), constant(3), one(api.Past, 0, 0)))
	for _, x := range []struct {
		cell, value int
		want        api.Errno
	}{
		{-1, 5, api.ErrName}, {3, 5, api.ErrName}, {least, 5, api.ErrName}, {greatest, greatest, api.ErrName},
		{1, 5, api.ErrField}, {2, 5, api.ErrField}, {1, greatest, api.ErrField},
		{0, 2000000001, api.ErrValue}, {0, -2000000001, api.ErrValue}, {0, least, api.ErrValue}, {0, greatest, api.ErrValue},
	} {
		set(t, c, x.cell, x.value, x.want)
		values(t, c, 7, 3, 0)
	}
}

// That a case is closed stands ahead of every other error of Set.
func TestSetOfAClosedCase(t *testing.T) {
	c := begin(t, form(input(7), constant(3)))
	closes(t, c, api.OK)
	for _, x := range []struct{ cell, value int }{{0, 5}, {9, 5}, {-1, 5}, {1, 5}, {0, api.Limit + 1}, {least, greatest}} {
		set(t, c, x.cell, x.value, api.ErrClosed)
	}
	values(t, c, 7, 3)
}

func TestOnlyInputsAreFilledIn(t *testing.T) {
	for kind := api.Const; kind <= api.Due; kind++ {
		k := 0
		if kind == api.Age {
			k = api.MinUnit
		}
		c := begin(t, form(input(0), one(kind, 0, k)))
		set(t, c, 1, 1, api.ErrField)
	}
}

func TestValueRefuses(t *testing.T) {
	c := begin(t, form(input(7), constant(3)))
	for _, cell := range []int{-1, 2, 20, least, greatest} {
		if v, wrong := c.Value(cell); v != 0 || wrong != api.ErrName {
			t.Errorf("P4: Value(%d) = %d and %d", cell, v, wrong)
		}
	}
}

func TestCasesAreTheirOwn(t *testing.T) {
	f := form(input(7), two(api.Add, 0, 0))
	first := begin(t, f)
	second := begin(t, f)
	set(t, first, 0, 1, api.OK)
	values(t, first, 1, 2)
	values(t, second, 7, 14)
	if f.Cells[0] != input(7) {
		t.Error("P2: Set wrote into the form that New was given")
	}
}

// full is a form with spare room behind each of its lists.
func full() api.Form {
	return api.Form{
		Week:     31,
		Cells:    []api.Cell{input(0), one(api.Due, 0, 1), constant(9)}[:2],
		Holidays: []int{1, 2, 9}[:2],
		Rules:    []api.Rule{{Guard: 1, Steps: []int{5, 6, 9}[:2]}, {Guard: 9}}[:1],
	}
}

func TestWhatIsHandedInIsNotWritten(t *testing.T) {
	f := full()
	c := begin(t, f)
	set(t, c, 0, 86400, api.OK)
	want := full()
	advance(t, c, 100)
	same := slices.Equal(f.Cells[:3], want.Cells[:3]) && slices.Equal(f.Holidays[:3], want.Holidays[:3]) &&
		f.Rules[0].Guard == 1 && f.Rules[:2][1].Guard == 9 && slices.Equal(f.Rules[0].Steps[:3], want.Rules[0].Steps[:3])
	if !same {
		t.Errorf("P2: written into: %v", f)
	}
}

func TestWhatIsHandedInIsNotKept(t *testing.T) {
	f := full()
	c := begin(t, f)
	values(t, c, 0, 3*86400)
	f.Cells[0] = constant(50)
	f.Cells[1] = constant(60)
	f.Holidays[1] = 3
	f.Rules[0].Guard = 77
	f.Rules[0].Steps[0] = 77
	values(t, c, 0, 3*86400)
	set(t, c, 0, 3*86400, api.OK)
	values(t, c, 3*86400, 4*86400)
	advance(t, c, 100)
	logged(t, c, event(0, 0, 0), event(5, 0, 1), event(6, 0, 2))
}
