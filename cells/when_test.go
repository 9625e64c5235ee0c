package cells

import (
	"math/rand"
	"slices"
	"testing"

	"docket/api"
)

func whenIs(t *testing.T, f api.Form, cell int, now int, want int, comes bool) {
	t.Helper()
	if got, found := When(f, cell, now); got != want || found != comes {
		t.Errorf("P11: cell %d of %v at %d changes at %d, %v, want %d, %v", cell, f.Cells, now, got, found, want, comes)
	}
}

func TestWhenOfPastAndAge(t *testing.T) {
	f := form(constant(500), two(api.Past, 0, 0), api.Cell{Kind: api.Age, A: 0, K: 1000000})
	for _, now := range []int{0, 1, 499} {
		whenIs(t, f, 0, now, 0, false)
		whenIs(t, f, 1, now, 500, true)
		whenIs(t, f, 2, now, 1000500, true)
	}
	whenIs(t, f, 1, 500, 0, false)
	whenIs(t, f, 2, 1000499, 1000500, true)
	whenIs(t, f, 2, 1000500, 2000500, true)
	whenIs(t, f, 2, 999000499, 999000500, true)
	whenIs(t, f, 2, 999000500, 0, false)
	whenIs(t, f, 1, 1000000000, 0, false)
}

// What it needs turns a thousand times, and the cell itself at the last of them, or not at all.
func TestWhenBehindManyTurns(t *testing.T) {
	f := form(constant(0), api.Cell{Kind: api.Age, A: 0, K: 1000000}, constant(999), two(api.Less, 2, 1), two(api.Mul, 0, 1))
	whenIs(t, f, 3, 0, 1000000000, true)
	whenIs(t, f, 3, 999999999, 1000000000, true)
	whenIs(t, f, 3, 1000000000, 0, false)
	whenIs(t, f, 4, 0, 0, false)
}

// What the cell does not need may turn as it likes, also with a number in A, B or C that no row names.
func TestWhenBesideOtherTurns(t *testing.T) {
	f := form(api.Cell{Kind: api.Const, A: 1, B: 2, C: 3, K: 700}, two(api.Past, 3, 0), two(api.Past, 0, 1), constant(300), two(api.Min, 2, 2))
	whenIs(t, f, 0, 0, 0, false)
	whenIs(t, f, 1, 0, 300, true)
	whenIs(t, f, 2, 0, 700, true)
	whenIs(t, f, 3, 0, 0, false)
	whenIs(t, f, 4, 0, 700, true)
}

func TestWhenOfWrongNumbersDoesNotPanic(t *testing.T) {
	f := form(constant(500), two(api.Past, 0, 0))
	whenIs(t, f, -1, 0, 0, false)
	whenIs(t, f, 2, 0, 0, false)
	whenIs(t, api.Form{}, 0, 0, 0, false)
	whenIs(t, form(api.Cell{Kind: api.Age, A: 9}, api.Cell{Kind: api.Past, A: -1}, api.Cell{Kind: 13}), 1, 5, 0, false)
}

func TestWhenDoesNotWriteIntoTheForm(t *testing.T) {
	f := form(constant(500), two(api.Past, 0, 0), constant(7), two(api.Past, 2, 0))
	was := slices.Clone(f.Cells)
	whenIs(t, f, 3, 0, 7, true)
	if !slices.Equal(f.Cells, was) {
		t.Errorf("P11: When made %v of %v", f.Cells, was)
	}
}

func TestWhenOfRandomForms(t *testing.T) {
	r := rand.New(rand.NewSource(6))
	seen, kept := 0, 0
	for range 1000 {
		f := near(r)
		now := r.Intn(50)
		present := Values(f, now)
		first := make([]int, len(f.Cells))
		for instant := now + 1; instant <= 400; instant++ {
			for cell, v := range Values(f, instant) {
				if first[cell] == 0 && v != present[cell] {
					first[cell] = instant
				}
			}
		}
		for cell, want := range first {
			at, comes := When(f, cell, now)
			if want != 0 && (at != want || !comes) || want == 0 && comes && at <= 400 {
				t.Fatalf("P11: cell %d of %+v at %d changes at %d, but When is %d, %v", cell, f, now, want, at, comes)
			}
			if want != 0 {
				seen++
			} else if slices.Max(first) > 0 {
				kept++
			}
		}
	}
	if seen < 1000 || kept < 1000 {
		t.Errorf("the random forms prove little: %d cells change, %d do not and others do", seen, kept)
	}
}
