package rules

import (
	"slices"
	"testing"

	"docket/api"
)

func lit(since, level int) api.State { return api.State{Lit: true, Since: since, Level: level} }

func acked(since, level int) api.State {
	return api.State{Lit: true, Since: since, Level: level, Acked: true}
}

func TestSettle(t *testing.T) {
	off := api.State{}
	for _, c := range []struct {
		what  string
		state api.State
		guard int
		now   int
		want  api.State
		fires bool
	}{
		{"not lit, false", off, 0, 500, off, false},
		{"not lit, true", off, 1, 500, lit(500, 0), true},
		{"not lit, true at instant 0", off, 1, 0, lit(0, 0), true},
		{"a guard of 7 is true", off, 7, 500, lit(500, 0), true},
		{"a guard below 0 is true", off, -1, 500, lit(500, 0), true},
		{"lit, false", lit(500, 1), 0, 600, off, false},
		{"lit, false just at a step", lit(500, 0), 0, 510, off, false},
		{"acked, false", acked(500, 1), 0, 600, off, false},
		{"lit at this very instant", lit(500, 0), 1, 500, lit(500, 0), false},
		{"ahead of the first step", lit(500, 0), 1, 509, lit(500, 0), false},
		{"at the first step", lit(500, 0), 1, 510, lit(500, 1), true},
		{"at the first step once more", lit(500, 1), 1, 510, lit(500, 1), false},
		{"behind a step that was left out", lit(500, 0), 1, 511, lit(500, 0), false},
		{"at the second step, the first left out", lit(500, 0), 1, 600, lit(500, 0), false},
		{"ahead of the second step", lit(500, 1), 1, 599, lit(500, 1), false},
		{"at the second step", lit(500, 1), 1, 600, lit(500, 2), true},
		{"behind the last step", lit(500, 2), 1, 600, lit(500, 2), false},
		{"acked at a step", acked(500, 0), 1, 510, acked(500, 0), false},
		{"acked at the last step", acked(500, 1), 1, 600, acked(500, 1), false},
	} {
		r := api.Rule{Guard: 3, Steps: []int{10, 100}}
		got, fires := Settle(r, c.state, c.guard, c.now)
		if got != c.want || fires != c.fires {
			t.Errorf("P6: %s: %v, %v, want %v, %v", c.what, got, fires, c.want, c.fires)
		}
	}
}

func TestSettleWithoutSteps(t *testing.T) {
	for _, now := range []int{500, 501, 1000000000} {
		got, fires := Settle(api.Rule{}, lit(500, 0), 1, now)
		if got != lit(500, 0) || fires {
			t.Errorf("P6: a rule without steps at %d: %v, %v", now, got, fires)
		}
	}
}

func TestNextStep(t *testing.T) {
	for _, c := range []struct {
		what  string
		state api.State
		step  int
		waits bool
	}{
		{"not lit", api.State{}, 0, false},
		{"the first", lit(500, 0), 510, true},
		{"the second", lit(500, 1), 600, true},
		{"no more", lit(500, 2), 0, false},
		{"acked", acked(500, 0), 0, false},
		{"late", lit(1000000000, 1), 1000000100, true},
		{"no level", lit(500, -1), 0, false},
		{"far too high a level", lit(500, 1<<62), 0, false},
	} {
		step, waits := NextStep(api.Rule{Steps: []int{10, 100}}, c.state)
		if step != c.step || waits != c.waits {
			t.Errorf("P6: the next step, %s: %d, %v, want %d, %v", c.what, step, waits, c.step, c.waits)
		}
	}
}

func TestStepsAreNotWritten(t *testing.T) {
	steps := []int{10, 100, 7}
	Settle(api.Rule{Steps: steps[:2]}, lit(500, 1), 1, 600)
	if !slices.Equal(steps, []int{10, 100, 7}) {
		t.Errorf("P2: the steps are %v", steps)
	}
}
