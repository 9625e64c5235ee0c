package docket_test

import (
	"fmt"
	"math/rand"
	"slices"
	"testing"

	"docket/api"
	"docket/docket"
)

func next(t *testing.T, c *docket.Case, want int) {
	t.Helper()
	if got, comes := c.Next(); got != want || !comes {
		t.Errorf("P10: at %d Next() = %d, %v, want %d", c.Now(), got, comes, want)
	}
}

func nextIsNone(t *testing.T, c *docket.Case) {
	t.Helper()
	if got, comes := c.Next(); got != 0 || comes {
		t.Errorf("P10: at %d Next() = %d, %v, want none", c.Now(), got, comes)
	}
}

func when(t *testing.T, c *docket.Case, cell, want int) {
	t.Helper()
	if got, comes, wrong := c.When(cell); got != want || !comes || wrong != api.OK {
		t.Errorf("P11: at %d When(%d) = %d, %v, %d, want %d", c.Now(), cell, got, comes, wrong, want)
	}
}

func whenIsNone(t *testing.T, c *docket.Case, cells ...int) {
	t.Helper()
	for _, cell := range cells {
		if got, comes, wrong := c.When(cell); got != 0 || comes || wrong != api.OK {
			t.Errorf("P11: at %d When(%d) = %d, %v, %d, want none", c.Now(), cell, got, comes, wrong)
		}
	}
}

// valuesOf has the values of all cells.
func valuesOf(c *docket.Case) []int {
	var all []int
	for cell := 0; ; cell++ {
		v, wrong := c.Value(cell)
		if wrong != api.OK {
			return all
		}
		all = append(all, v)
	}
}

// look has all that a case shows at the present instant, but for what is to come.
func look(c *docket.Case) string {
	var states []api.State
	for number := 0; ; number++ {
		s, wrong := c.Rule(number)
		if wrong != api.OK {
			return fmt.Sprint(c.Now(), valuesOf(c), states, c.Log(0))
		}
		states = append(states, s)
	}
}

func TestNextOfTheExamples(t *testing.T) {
	c := begin(t, deadline(500))
	next(t, c, 500)
	advance(t, c, 505)
	next(t, c, 510)
	advance(t, c, 1000)
	nextIsNone(t, c)
	set(t, c, 0, 2000, api.OK)
	next(t, c, 2000)
	c = begin(t, deadline(500))
	advance(t, c, 550)
	next(t, c, 600)
	ack(t, c, 0, api.OK)
	nextIsNone(t, c)
	c = begin(t, deadline(500))
	closes(t, c, api.OK)
	next(t, c, 500)
}

func TestWhenOfTheExamples(t *testing.T) {
	c := begin(t, with(form(constant(250), one(api.Age, 0, 1000000), constant(2), two(api.Same, 1, 2)), rule(3)))
	when(t, c, 3, 2000250)
	advance(t, c, 2000250)
	when(t, c, 3, 3000250)
	advance(t, c, 3000250)
	whenIsNone(t, c, 3)
}

func TestWhenRefuses(t *testing.T) {
	c := begin(t, with(form(input(500), one(api.Past, 0, 0)), rule(1), rule(1), rule(1)))
	closed := begin(t, form(input(500), one(api.Past, 0, 0)))
	closes(t, closed, api.OK)
	for _, cell := range []int{-1, 2, 19, 20, least, greatest, 1 << 32, 1<<32 + 1} {
		for _, x := range []*docket.Case{c, closed} {
			was := look(x)
			if got, comes, wrong := x.When(cell); got != 0 || comes || wrong != api.ErrName {
				t.Errorf("P11: When(%d) = %d, %v, %d", cell, got, comes, wrong)
			}
			if is := look(x); is != was {
				t.Errorf("P1: When(%d) made %s of %s", cell, is, was)
			}
		}
	}
}

// The last instant ahead of a turn, the turn itself, and the first instant behind it.
func TestNextAndWhenAroundATurn(t *testing.T) {
	c := begin(t, form(constant(500), one(api.Past, 0, 0), constant(250), one(api.Age, 2, 1000000)))
	for _, x := range []struct{ at, next, age int }{
		{0, 500, 1000250}, {1, 500, 1000250}, {249, 500, 1000250}, {250, 500, 1000250}, {499, 500, 1000250},
		{500, 1000250, 1000250}, {501, 1000250, 1000250}, {1000249, 1000250, 1000250},
		{1000250, 2000250, 2000250}, {1000251, 2000250, 2000250}, {998000250, 999000250, 999000250},
	} {
		advance(t, c, x.at)
		next(t, c, x.next)
		when(t, c, 3, x.age)
		if x.at < 500 {
			when(t, c, 1, 500)
		} else {
			whenIsNone(t, c, 1)
		}
		whenIsNone(t, c, 0, 2)
	}
	advance(t, c, 999000250)
	nextIsNone(t, c)
	whenIsNone(t, c, 0, 1, 2, 3)
}

// MaxTime is an instant like any other; what would come behind it does not come.
func TestNextAndWhenAtTheLastInstant(t *testing.T) {
	c := begin(t, form(constant(1000000000), one(api.Past, 0, 0), constant(0), one(api.Age, 2, 1000000000)))
	for _, at := range []int{0, 1, 999999999} {
		advance(t, c, at)
		next(t, c, 1000000000)
		when(t, c, 1, 1000000000)
		when(t, c, 3, 1000000000)
	}
	advance(t, c, 1000000000)
	nextIsNone(t, c)
	whenIsNone(t, c, 0, 1, 2, 3)
	f := form(constant(1000000001), one(api.Past, 0, 0), constant(1), one(api.Age, 2, 1000000000),
		constant(2000000000), one(api.Past, 4, 0), one(api.Age, 4, 1000000000), one(api.Age, 4, 1000000))
	c = begin(t, f)
	for _, at := range []int{0, 1, 999999999, 1000000000} {
		advance(t, c, at)
		nextIsNone(t, c)
		whenIsNone(t, c, 0, 1, 2, 3, 4, 5, 6, 7)
	}
}

func TestLevelsAtTheLastInstant(t *testing.T) {
	c := begin(t, with(form(constant(1)), rule(0, 1000000000)))
	next(t, c, 1000000000)
	advance(t, c, 1000000000)
	nextIsNone(t, c)
	logged(t, c, event(0, 0, 0), event(1000000000, 0, 1))
	c = begin(t, with(form(input(0)), rule(0, 999999999, 1000000000)))
	advance(t, c, 1)
	set(t, c, 0, 1, api.OK)
	next(t, c, 1000000000)
	advance(t, c, 2)
	set(t, c, 0, 0, api.OK)
	nextIsNone(t, c)
	set(t, c, 0, 1, api.OK)
	nextIsNone(t, c)
	advance(t, c, 1000000000)
	nextIsNone(t, c)
	logged(t, c, event(1, 0, 0), event(2, 0, 0))
}

func TestNothingIsToCome(t *testing.T) {
	c := begin(t, with(form(constant(7), input(-5), two(api.Add, 0, 1), one(api.Past, 1, 0), one(api.Due, 0, 3)), rule(0), rule(3)))
	for _, at := range []int{0, 86400, 999999999, 1000000000} {
		advance(t, c, at)
		nextIsNone(t, c)
		whenIsNone(t, c, 0, 1, 2, 3, 4)
	}
}

// No cell but cell 1 looks at the clock by itself: the others change by way of it.
func TestCellsThatChangeByWayOfOthers(t *testing.T) {
	f := form(
		constant(700), one(api.Past, 0, 0), constant(100000),
		two(api.Add, 1, 2), two(api.Sub, 2, 1), two(api.Mul, 1, 2), two(api.Min, 1, 2), two(api.Max, 1, 13),
		two(api.Less, 13, 1), two(api.Same, 13, 1), api.Cell{Kind: api.If, A: 1, B: 13, C: 2},
		one(api.Due, 5, 0), two(api.Add, 11, 11), constant(0),
	)
	c := begin(t, f)
	for _, at := range []int{0, 1, 699} {
		advance(t, c, at)
		for cell := range f.Cells {
			if cell == 0 || cell == 2 || cell == 13 {
				whenIsNone(t, c, cell)
			} else {
				when(t, c, cell, 700)
			}
		}
	}
	advance(t, c, 700)
	for cell := range f.Cells {
		whenIsNone(t, c, cell)
	}
}

// At 300 and 600 other cells change and cell 6 keeps its value: two changes even out, or are not looked at.
func TestWhenOfACellThatKeepsItsValue(t *testing.T) {
	f := form(
		constant(300), one(api.Past, 0, 0), input(300), one(api.Past, 2, 0), two(api.Sub, 1, 3),
		one(api.Past, 7, 0), api.Cell{Kind: api.If, A: 8, B: 5, C: 4}, constant(600), one(api.Past, 9, 0), constant(900),
	)
	c := begin(t, f)
	when(t, c, 6, 900)
	next(t, c, 300)
	whenIsNone(t, c, 4)
	advance(t, c, 300)
	when(t, c, 6, 900)
	next(t, c, 600)
	set(t, c, 2, 400, api.OK)
	values(t, c, 300, 1, 400, 0, 1, 0, 1)
	when(t, c, 6, 400)
	when(t, c, 4, 400)
	next(t, c, 400)
	advance(t, c, 400)
	when(t, c, 6, 900)
	advance(t, c, 899)
	when(t, c, 6, 900)
	whenIsNone(t, c, 1, 3, 4, 5)
	advance(t, c, 900)
	whenIsNone(t, c, 6)
}

// A level comes while no cell changes: Next tells it, and When of the guard does not.
func TestNextOfALevelAlone(t *testing.T) {
	c := begin(t, with(form(constant(1), constant(800), one(api.Past, 1, 0)), rule(0, 50, 60, 900), rule(0, 55, 2000), rule(0), rule(2, 7)))
	for _, at := range []int{50, 55, 60, 800, 807, 900, 2000} {
		next(t, c, at)
		whenIsNone(t, c, 0)
		advance(t, c, at-1)
		next(t, c, at)
		advance(t, c, at)
	}
	nextIsNone(t, c)
}

// A rule is looked at by itself: acked it waits for nothing, and the others go on.
func TestNextOfAckedRules(t *testing.T) {
	c := begin(t, with(form(constant(1)), rule(0, 50, 70), rule(0, 60)))
	ack(t, c, 0, api.OK)
	next(t, c, 60)
	ack(t, c, 1, api.OK)
	nextIsNone(t, c)
}

// A level does not come behind the instant at which the guard is false.
func TestNextOfALevelThatDoesNotCome(t *testing.T) {
	f := form(constant(0), one(api.Past, 0, 0), constant(50), one(api.Past, 2, 0), two(api.Sub, 1, 3))
	c := begin(t, with(f, rule(4, 49, 50, 51)))
	next(t, c, 49)
	advance(t, c, 49)
	next(t, c, 50)
	when(t, c, 4, 50)
	advance(t, c, 50)
	nextIsNone(t, c)
	c = begin(t, with(f, rule(4, 51)))
	next(t, c, 50)
	advance(t, c, 50)
	nextIsNone(t, c)
	logged(t, c, event(0, 0, 0))
}

// Set at the present instant: a deadline that is reached is not to come any more.
func TestNextAndWhenBehindASet(t *testing.T) {
	c := begin(t, deadline(500))
	advance(t, c, 100)
	set(t, c, 0, 101, api.OK)
	next(t, c, 101)
	when(t, c, 1, 101)
	set(t, c, 0, 100, api.OK)
	next(t, c, 110)
	whenIsNone(t, c, 0, 1)
	set(t, c, 0, 3000, api.OK)
	next(t, c, 3000)
	when(t, c, 1, 3000)
	set(t, c, 0, -2000000000, api.OK)
	next(t, c, 110)
	whenIsNone(t, c, 0, 1)
	set(t, c, 0, 2000000000, api.OK)
	nextIsNone(t, c)
	whenIsNone(t, c, 0, 1)
}

// The cells of a closed case go on, and nothing is logged: so no level is to come.
func TestNextAndWhenOfAClosedCase(t *testing.T) {
	c := begin(t, with(form(input(500), one(api.Past, 0, 0), constant(1)), rule(2, 10, 100), rule(1, 10)))
	next(t, c, 10)
	closes(t, c, api.OK)
	next(t, c, 500)
	when(t, c, 1, 500)
	advance(t, c, 500)
	nextIsNone(t, c)
	whenIsNone(t, c, 0, 1, 2)
	advance(t, c, 1000000000)
	nextIsNone(t, c)
	logged(t, c, event(0, 0, 0))
}

// walk goes from Next to Next to the end of time. At each the case must look otherwise than ahead
// of it, and at the instant ahead of it as before; on the way each cell must change when When says.
func walk(t *testing.T, c *docket.Case) []int {
	t.Helper()
	var stops []int
	were := valuesOf(c)
	said := make([]int, len(were))
	for cell := range were {
		said[cell], _, _ = c.When(cell)
	}
	for !t.Failed() {
		now, events := c.Now(), len(c.Log(0))
		at, comes := c.Next()
		if !comes {
			at = api.MaxTime + 1
		}
		if at <= now {
			t.Fatalf("P10: at %d Next() = %d", now, at)
		}
		advance(t, c, at-1)
		if !slices.Equal(valuesOf(c), were) || len(c.Log(0)) != events {
			t.Fatalf("P10: something happens between %d and %d", now, at)
		}
		if !comes {
			break
		}
		advance(t, c, at)
		are := valuesOf(c)
		if slices.Equal(are, were) && len(c.Log(0)) == events {
			t.Fatalf("P10: nothing happens at %d", at)
		}
		for cell := range are {
			if changes := are[cell] != were[cell]; changes != (said[cell] == at) {
				t.Fatalf("P11: cell %d becomes %d at %d, but When was %d", cell, are[cell], at, said[cell])
			}
			if are[cell] != were[cell] {
				said[cell], _, _ = c.When(cell)
			}
		}
		were = are
		stops = append(stops, at)
	}
	for cell, at := range said {
		if at != 0 {
			t.Errorf("P11: cell %d never changes, but When was %d", cell, at)
		}
	}
	return stops
}

func TestFromNextToNext(t *testing.T) {
	c := begin(t, with(halves(), rule(6, 3000000, 3500001)))
	var want []int
	for unit := 0; unit < 1000000000; unit += 10000000 {
		for _, at := range []int{
			1000000, 2000000, 3000000, 4000000, 5000000, 5000001, 6000001, 7000001,
			8000000, 8000001, 8500001, 9000001, 10000000,
		} {
			want = append(want, unit+at)
		}
	}
	if stops := walk(t, c); !slices.Equal(stops, want) {
		t.Errorf("P10: %d instants at which something happens, want %d", len(stops), len(want))
	}
}

func TestFromNextToNextOfRandomCases(t *testing.T) {
	r := rand.New(rand.NewSource(5))
	stops := 0
	for range 40 {
		f := busy(r)
		c := begin(t, f)
		if r.Intn(4) == 0 {
			closes(t, c, api.OK)
		}
		stops += len(walk(t, c))
		if t.Failed() {
			t.Fatalf("the form is %+v", f)
		}
	}
	if stops < 1000 {
		t.Errorf("the random cases prove little: %d instants at which something happens", stops)
	}
}

// soon holds an instant that is told against the one that was seen to come up to the instant last (0, if none was).
func soon(got int, comes bool, seen int, last int) bool {
	if seen != 0 {
		return comes && got == seen
	}
	if !comes {
		return got == 0
	}
	return got > last && got <= api.MaxTime
}

// told counts what Next and When were right about.
type told struct{ turns, levels, kept, later int }

func (p *told) count(next int, whens []int) {
	if next == 0 {
		p.later++
		return
	}
	p.turns++
	changes := 0
	for _, at := range whens {
		if at == next {
			changes++
		}
		if at > next {
			p.kept++
		}
	}
	if changes == 0 {
		p.levels++
	}
}

func TestNextAndWhenAreAsInstantByInstant(t *testing.T) {
	r := rand.New(rand.NewSource(4))
	var p told
	for range 400 {
		f := busy(r)
		c, m := begin(t, f), newModel(f)
		for m.now < 250 && !t.Failed() {
			play(t, r, c, m)
			was, last := look(c), m.now+250
			seen, whens := m.ahead(last)
			if at, comes := c.Next(); !soon(at, comes, seen, last) {
				t.Errorf("P10: at %d Next() = %d, %v, want %d", m.now, at, comes, seen)
			}
			for cell, seen := range whens {
				if at, comes, wrong := c.When(cell); !soon(at, comes, seen, last) || wrong != api.OK {
					t.Errorf("P11: at %d When(%d) = %d, %v, %d, want %d", m.now, cell, at, comes, wrong, seen)
				}
			}
			if is := look(c); is != was {
				t.Errorf("P10, P11: Next and When made %s of %s", is, was)
			}
			logged(t, c, m.log...)
			state(t, c, m.states...)
			p.count(seen, whens)
		}
		if t.Failed() {
			t.Fatalf("the form is %+v", f)
		}
	}
	if p.turns < 1000 || p.levels < 300 || p.kept < 300 || p.later < 300 {
		t.Errorf("the random cases prove little: %+v", p)
	}
}
