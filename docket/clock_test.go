package docket_test

import (
	"testing"

	"docket/api"
	"docket/docket"
)

func advance(t *testing.T, c *docket.Case, to int) {
	t.Helper()
	if wrong := c.Advance(to); wrong != api.OK || c.Now() != to {
		t.Fatalf("P6: Advance(%d) = %d, Now = %d", to, wrong, c.Now())
	}
}

func refuses(t *testing.T, c *docket.Case, to ...int) {
	t.Helper()
	now := c.Now()
	for _, instant := range to {
		if wrong := c.Advance(instant); wrong != api.ErrTime || c.Now() != now {
			t.Errorf("P6: Advance(%d) at %d = %d, Now = %d", instant, now, wrong, c.Now())
		}
	}
}

func TestAdvanceOfTheExamples(t *testing.T) {
	c := begin(t, form(constant(0)))
	advance(t, c, 5)
	refuses(t, c, 4)
	advance(t, c, 5)
	refuses(t, c, 1000000001)
}

func TestAdvanceRefuses(t *testing.T) {
	c := begin(t, form(input(100), one(api.Past, 0, 0)))
	refuses(t, c, -1, least, 1000000001, greatest, 1<<32, 2000000000)
	advance(t, c, 0)
	values(t, c, 100, 0)
	advance(t, c, 1)
	refuses(t, c, 0, -1, least, 1000000001, greatest, 1<<32)
	values(t, c, 100, 0)
	advance(t, c, 1000000000)
	refuses(t, c, 999999999, 1000000001)
	advance(t, c, 1000000000)
	values(t, c, 100, 1)
}

// Each Advance may be the last instant ahead of a turn, or the turn itself.
func TestPastAndAgeGoOn(t *testing.T) {
	c := begin(t, form(input(500), one(api.Past, 0, 0), constant(250), one(api.Age, 2, 1000000)))
	for _, x := range []struct{ to, past, age int }{
		{1, 0, 0}, {499, 0, 0}, {500, 1, 0}, {501, 1, 0},
		{1000249, 1, 0}, {1000250, 1, 1}, {1000251, 1, 1},
		{2000249, 1, 1}, {2000250, 1, 2}, {3000250, 1, 3},
		{1000000000, 1, 999},
	} {
		advance(t, c, x.to)
		values(t, c, 500, x.past, 250, x.age)
	}
}

// A deadline below 0 is past from the beginning, one above MaxTime never is.
func TestDeadlinesThatAreNoInstants(t *testing.T) {
	f := form(
		constant(-2000000000), one(api.Past, 0, 0), one(api.Age, 0, 1000000),
		constant(1000000001), one(api.Past, 3, 0), one(api.Age, 3, 1000000),
		constant(1000000000), one(api.Past, 6, 0), one(api.Age, 6, 1000000),
		constant(0), one(api.Age, 9, 1000000000),
	)
	c := begin(t, f)
	values(t, c, -2000000000, 1, 2000, 1000000001, 0, 0, 1000000000, 0, 0, 0, 0)
	advance(t, c, 999999999)
	values(t, c, -2000000000, 1, 2999, 1000000001, 0, 0, 1000000000, 0, 0, 0, 0)
	advance(t, c, 1000000000)
	values(t, c, -2000000000, 1, 3000, 1000000001, 0, 0, 1000000000, 1, 0, 0, 1)
}

// What is filled in holds from the present instant on, and the clock goes on from there.
func TestSetBetweenAdvances(t *testing.T) {
	c := begin(t, form(input(500), one(api.Past, 0, 0), one(api.Age, 0, 1000000)))
	advance(t, c, 700)
	values(t, c, 500, 1, 0)
	set(t, c, 0, 2000, api.OK)
	values(t, c, 2000, 0, 0)
	advance(t, c, 1999)
	values(t, c, 2000, 0, 0)
	advance(t, c, 2000)
	values(t, c, 2000, 1, 0)
	set(t, c, 0, -2998000, api.OK)
	values(t, c, -2998000, 1, 3)
	set(t, c, 0, 2000000001, api.ErrValue)
	advance(t, c, 1001999)
	values(t, c, -2998000, 1, 3)
	advance(t, c, 1002000)
	values(t, c, -2998000, 1, 4)
}

func TestDueGoesOnWithWhatItNeeds(t *testing.T) {
	// The day that cell 4 reckons from goes one on every twelve days.
	f := form(constant(0), one(api.Age, 0, 1036800), constant(86400), two(api.Mul, 1, 2), one(api.Due, 3, 2), one(api.Past, 4, 0))
	f.Holidays = []int{3, 4}
	c := begin(t, f)
	values(t, c, 0, 0, 86400, 0, 2*86400, 0)
	advance(t, c, 2*86400-1)
	values(t, c, 0, 0, 86400, 0, 2*86400, 0)
	advance(t, c, 2*86400)
	values(t, c, 0, 0, 86400, 0, 2*86400, 1)
	advance(t, c, 1036799)
	values(t, c, 0, 0, 86400, 0, 2*86400, 1)
	advance(t, c, 1036800)
	values(t, c, 0, 1, 86400, 86400, 7*86400, 1)
	advance(t, c, 3*1036800)
	values(t, c, 0, 3, 86400, 3*86400, 8*86400, 1)
}

// halves has a deadline that moves by itself: cell 6 is true in the second half of each unit of cell 1.
func halves() api.Form {
	return form(
		constant(0), one(api.Age, 0, 10000000), constant(10000000), two(api.Mul, 1, 2),
		constant(5000000), two(api.Add, 3, 4), one(api.Past, 5, 0), one(api.Age, 6, 1000000),
	)
}

func TestDeadlinesThatMove(t *testing.T) {
	for _, by := range []int{1000000000, 1, 4999999, 5000000, 123456789} {
		c := begin(t, halves())
		for from := 0; from < 1000000000; from += 99999999 {
			for to := from; to <= min(from+4*by, 1000000000); to += by {
				if to < c.Now() {
					continue
				}
				advance(t, c, to)
				unit := to / 10000000
				second := to % 10000000 / 5000000
				values(t, c, 0, unit, 10000000, 10000000*unit, 5000000, 10000000*unit+5000000, second, (to-second)/1000000)
			}
		}
	}
}

func TestClocksAreTheirOwn(t *testing.T) {
	f := form(input(500), one(api.Past, 0, 0))
	first := begin(t, f)
	second := begin(t, f)
	advance(t, first, 600)
	values(t, first, 500, 1)
	values(t, second, 500, 0)
	if second.Now() != 0 {
		t.Errorf("P6: the other case's instant is %d", second.Now())
	}
}

func TestRulesDoNotHinderTheClock(t *testing.T) {
	f := halves()
	f.Rules = []api.Rule{{Guard: 6, Steps: []int{1, 2, 3, 1000000000}}, {Guard: 0}, {Guard: 4, Steps: []int{1000000000}}}
	c := begin(t, f)
	advance(t, c, 999999999)
	values(t, c, 0, 99, 10000000, 990000000, 5000000, 995000000, 1, 999)
	advance(t, c, 1000000000)
	values(t, c, 0, 100, 10000000, 1000000000, 5000000, 1005000000, 0, 1000)
}
