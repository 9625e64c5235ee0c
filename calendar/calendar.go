// Package calendar: days and working days.
package calendar

import "docket/api"

const daysOfWeek = 7

// DayOf tells the day in which an instant lies.
func DayOf(instant int) int {
	day := instant / api.Day
	// Go divides towards 0, but a day below 0 begins ahead of its instants too.
	if instant%api.Day < 0 {
		day--
	}
	return day
}

// WorkingDay tells the k-th working day behind a day; the day itself, if k is not above 0.
// The holidays must rise.
func WorkingDay(week int, holidays []int, day int, k int) int {
	each := daysAtWork(week)
	if k <= 0 || each == 0 {
		return day
	}
	// Whole weeks are skipped at once; at least one day is left to be walked,
	// so that the walk ends on a day of work whatever day it began at.
	weeks := (k - 1) / each
	last := day + weeks*daysOfWeek
	for left := k - weeks*each; left > 0; left-- {
		last = nextAtWork(week, last)
	}
	// As the holidays rise, none of those behind us can be the day that we move on to.
	for _, holiday := range holidays {
		if holiday > day && holiday <= last && atWork(week, holiday) {
			last = nextAtWork(week, last)
		}
	}
	return last
}

// atWork tells whether a day's bit is in the week; holidays are not asked.
func atWork(week int, day int) bool {
	place := day % daysOfWeek
	if place < 0 {
		place += daysOfWeek
	}
	return week>>uint(place)&1 == 1
}

// nextAtWork tells the first day behind this one whose bit is in the week.
// It looks no further than a week, so that it ends even if the week has no bit.
func nextAtWork(week int, day int) int {
	for ahead := 1; ahead < daysOfWeek; ahead++ {
		if atWork(week, day+ahead) {
			return day + ahead
		}
	}
	return day + daysOfWeek
}

// daysAtWork counts the days of a week whose bit is in it.
func daysAtWork(week int) int {
	count := 0
	for day := 0; day < daysOfWeek; day++ {
		if atWork(week, day) {
			count++
		}
	}
	return count
}
