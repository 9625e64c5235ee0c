package cells

import (
	"math/rand"
	"slices"
	"testing"

	"docket/api"
)

func turnIs(t *testing.T, f api.Form, now int, want int, turns bool) {
	t.Helper()
	values := Values(f, now)
	got, found := Turn(f, values, now)
	if got != want || found != turns {
		t.Errorf("P6: %v at %d turns at %d, %v, want %d, %v", f.Cells, now, got, found, want, turns)
	}
}

func TestTurnOfPast(t *testing.T) {
	f := form(constant(500), two(api.Past, 0, 0))
	turnIs(t, f, 0, 500, true)
	turnIs(t, f, 499, 500, true)
	turnIs(t, f, 500, 0, false)
	turnIs(t, f, 501, 0, false)
	turnIs(t, form(constant(1000000000), two(api.Past, 0, 0)), 0, 1000000000, true)
	turnIs(t, form(constant(1000000001), two(api.Past, 0, 0)), 0, 0, false)
	turnIs(t, form(constant(-5), two(api.Past, 0, 0)), 0, 0, false)
}

func TestTurnOfAge(t *testing.T) {
	for _, c := range []struct {
		from, unit, now, want int
		turns                 bool
	}{
		{250, 1000000, 0, 1000250, true},
		{250, 1000000, 249, 1000250, true},
		{250, 1000000, 250, 1000250, true},
		{250, 1000000, 1000249, 1000250, true},
		{250, 1000000, 1000250, 2000250, true},
		{-1, 1000000, 0, 999999, true},
		{-999999, 1000000, 0, 1, true},
		{-1000000, 1000000, 0, 1000000, true},
		{-2000000000, 1000000, 0, 1000000, true},
		{-2000000000, 999999999, 0, 999999997, true},
		{0, 1000000000, 0, 1000000000, true},
		{1, 1000000000, 0, 0, false},
		{0, 1000000000, 1000000000, 0, false},
		{2000000000, 1000000000, 0, 0, false},
		{-2000000000, 1000000000, 1000000000, 0, false},
	} {
		f := form(constant(c.from), api.Cell{Kind: api.Age, A: 0, K: c.unit})
		turnIs(t, f, c.now, c.want, c.turns)
	}
}

func TestTurnIsTheFirst(t *testing.T) {
	age := api.Cell{Kind: api.Age, A: 0, K: 1000000}
	early := form(constant(500), two(api.Past, 0, 0), age, constant(7), two(api.Past, 3, 0))
	turnIs(t, early, 0, 7, true)
	turnIs(t, early, 7, 500, true)
	turnIs(t, early, 500, 1000500, true)
	late := form(age, constant(7), two(api.Past, 1, 0))
	late.Cells[0].A = 1
	turnIs(t, late, 0, 7, true)
}

// Nothing but Past and Age hangs on the clock by itself.
func TestWhatDoesNotTurn(t *testing.T) {
	turnIs(t, form(constant(500), api.Cell{Kind: api.Input, K: 500}), 0, 0, false)
	for kind := api.Add; kind <= api.Due; kind++ {
		if kind != api.Past && kind != api.Age {
			turnIs(t, form(constant(500), api.Cell{Kind: kind, K: 200}), 0, 0, false)
		}
	}
}

func TestTurnsOfFormsWithErrorsDoNotPanic(t *testing.T) {
	f := form(api.Cell{Kind: api.Age, A: 9}, api.Cell{Kind: api.Past, A: -1}, api.Cell{Kind: 13})
	turnIs(t, f, 5, 0, false)
	turnIs(t, api.Form{}, 5, 0, false)
}

// near is a form of which much happens from instant 0 to some hundred.
// What a cell needs may stand ahead of it or behind it.
func near(r *rand.Rand) api.Form {
	n := 2 + r.Intn(19)
	places := r.Perm(n)
	f := api.Form{Week: 1 + r.Intn(127), Cells: make([]api.Cell, n)}
	for i, place := range places {
		c := api.Cell{Kind: r.Intn(13)}
		if i < 2 {
			c.Kind = r.Intn(2)
		} else {
			c.A, c.B, c.C = places[r.Intn(i)], places[r.Intn(i)], places[r.Intn(i)]
			if r.Intn(2) == 0 {
				c.Kind = api.Past + r.Intn(2)
			}
		}
		switch c.Kind {
		case api.Input, api.Const:
			c.K = []int{r.Intn(4) - 1, r.Intn(300), r.Intn(300) - 1000000, r.Intn(300) - 1000000}[r.Intn(4)]
		case api.Age:
			c.K = 1000000 - 100*r.Intn(2) + 100
		case api.Due:
			c.K = r.Intn(3)
		}
		f.Cells[place] = c
	}
	return f
}

func TestTurnsOfRandomForms(t *testing.T) {
	r := rand.New(rand.NewSource(2))
	seen := 0
	for range 3000 {
		f := near(r)
		values := Values(f, 0)
		turn, turns := Turn(f, values, 0)
		for now := 1; now <= 400; now++ {
			next := Values(f, now)
			changed := !slices.Equal(values, next)
			if changed != (turns && turn == now) {
				t.Fatalf("P6: %+v at %d: another value: %v, but the turn is %d, %v", f, now, changed, turn, turns)
			}
			if changed {
				seen++
			}
			values = next
			turn, turns = Turn(f, values, now)
		}
	}
	if seen < 3000 {
		t.Errorf("the random forms prove little: %d turns", seen)
	}
}
