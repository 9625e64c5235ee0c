package calendar

import (
	"math/rand"
	"testing"
)

func TestDayOf(t *testing.T) {
	for _, c := range []struct{ instant, day int }{
		{0, 0}, {1, 0}, {86399, 0}, {86400, 1}, {172799, 1}, {1000000000, 11574},
		{-1, -1}, {-86399, -1}, {-86400, -1}, {-86401, -2},
		{2000000000, 23148}, {-2000000000, -23149},
	} {
		if d := DayOf(c.instant); d != c.day {
			t.Errorf("DayOf(%d) = %d, want %d", c.instant, d, c.day)
		}
	}
}

func TestWorkingDay(t *testing.T) {
	for _, c := range []struct {
		what     string
		week     int
		holidays []int
		day, k   int
		want     int
	}{
		{"the day itself, at work", 31, nil, 3, 0, 3},
		{"the day itself, not at work", 31, nil, 5, 0, 5},
		{"the day itself, a holiday", 31, []int{3}, 3, 0, 3},
		{"the next day", 31, []int{7, 8}, 0, 1, 1},
		{"over the end of the week and two holidays", 31, []int{7, 8}, 4, 1, 9},
		{"holidays that are not at work anyway", 31, []int{5, 6}, 4, 1, 7},
		{"a holiday on the day of departure", 31, []int{3}, 3, 1, 4},
		{"a holiday just behind the goal", 31, []int{5, 8}, 4, 1, 7},
		{"below 0", 31, nil, -1, 1, 0},
		{"below 0, from a day at work", 31, nil, -3, 1, 0},
		{"below 0, a whole week", 31, nil, -14, 5, -7},
		{"from below 0 into holidays", 31, []int{0, 1, 2, 3, 4}, -1, 1, 7},
		{"one day a week", 64, []int{6}, 0, 2, 20},
		{"every day", 127, nil, 0, 250, 250},
		{"the longest", 1, nil, 0, 250, 1750},
		{"a week without days", 0, nil, 9, 3, 9},
		{"no such count", 31, nil, 9, -3, 9},
	} {
		if d := WorkingDay(c.week, c.holidays, c.day, c.k); d != c.want {
			t.Errorf("%s: %d, want %d", c.what, d, c.want)
		}
	}
}

// walk is the promise word by word: day by day, counting the working days.
func walk(week int, holidays []int, day, k int) int {
	for k > 0 {
		day++
		if works(week, holidays, day) {
			k--
		}
	}
	return day
}

func works(week int, holidays []int, day int) bool {
	for _, h := range holidays {
		if h == day {
			return false
		}
	}
	return week&(1<<(((day%7)+7)%7)) != 0
}

func TestWorkingDayIsTheWalk(t *testing.T) {
	r := rand.New(rand.NewSource(1))
	for range 20000 {
		week := 1 + r.Intn(127)
		day := r.Intn(400) - 200
		k := r.Intn(40)
		if r.Intn(10) == 0 {
			k = 211 + r.Intn(40)
		}
		var holidays []int
		next := r.Intn(60)
		for range r.Intn(21) {
			holidays = append(holidays, next)
			next += 1 + r.Intn(8)*r.Intn(8)
		}
		want := walk(week, holidays, day, k)
		if d := WorkingDay(week, holidays, day, k); d != want {
			t.Fatalf("WorkingDay(%d, %v, %d, %d) = %d, want %d", week, holidays, day, k, d, want)
		}
	}
}
