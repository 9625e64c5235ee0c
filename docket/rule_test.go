package docket_test

import (
	"slices"
	"testing"

	"docket/api"
	"docket/docket"
)

func ack(t *testing.T, c *docket.Case, rule int, want api.Errno) {
	t.Helper()
	if wrong := c.Ack(rule); wrong != want {
		t.Errorf("P8: at %d Ack(%d) = %d, want %d", c.Now(), rule, wrong, want)
	}
}

func closes(t *testing.T, c *docket.Case, want api.Errno) {
	t.Helper()
	if wrong := c.Close(); wrong != want {
		t.Errorf("P9: at %d Close() = %d, want %d", c.Now(), wrong, want)
	}
}

func TestRuleRefuses(t *testing.T) {
	c := begin(t, with(form(constant(1)), rule(0), rule(0)))
	none := begin(t, form(constant(1)))
	for _, number := range []int{-1, 2, 6, 20, least, greatest} {
		if s, wrong := c.Rule(number); s != (api.State{}) || wrong != api.ErrName {
			t.Errorf("P7: Rule(%d) = %v and %d", number, s, wrong)
		}
	}
	state(t, c, lit(0, 0), lit(0, 0))
	state(t, none)
	logged(t, none)
}

// A rule's number is none of a cell, nor the other way round.
func TestRulesAreNotCells(t *testing.T) {
	c := begin(t, with(form(constant(1)), rule(0), rule(0), rule(0)))
	if _, wrong := c.Rule(2); wrong != api.OK {
		t.Errorf("P7: Rule(2) = %d", wrong)
	}
	ack(t, c, 2, api.OK)
	if _, wrong := c.Value(1); wrong != api.ErrName {
		t.Errorf("P4: Value(1) = %d", wrong)
	}
}

func TestLogFromANumberOn(t *testing.T) {
	c := begin(t, deadline(500))
	for _, from := range []int{least, -1, 0, 1, greatest} {
		if log := c.Log(from); len(log) != 0 {
			t.Errorf("P7: Log(%d) of an empty log = %v", from, log)
		}
	}
	advance(t, c, 1000)
	all := []api.Event{event(500, 0, 0), event(510, 0, 1), event(600, 0, 2)}
	for _, x := range []struct{ from, first int }{
		{least, 0}, {-2, 0}, {-1, 0}, {0, 0}, {1, 1}, {2, 2}, {3, 3}, {4, 3}, {1 << 32, 3}, {greatest, 3},
	} {
		if log := c.Log(x.from); !slices.Equal(log, all[x.first:]) {
			t.Errorf("P7: Log(%d) = %v, want %v", x.from, log, all[x.first:])
		}
	}
}

// scribble writes over a list and over all its spare room.
func scribble(log []api.Event) {
	log = log[:cap(log)]
	for i := range log {
		log[i] = event(-7, -7, -7)
	}
}

func TestListsOfLogAreTheCallers(t *testing.T) {
	c := begin(t, deadline(500))
	advance(t, c, 505)
	all := []api.Event{event(500, 0, 0)}
	for _, to := range []int{505, 510, 511, 600, 700} {
		advance(t, c, to)
		if to == 510 || to == 600 {
			all = append(all, event(to, 0, len(all)))
		}
		for from := -1; from <= len(all)+1; from++ {
			first, second := c.Log(from), c.Log(from)
			scribble(first)
			if want := all[min(max(from, 0), len(all)):]; !slices.Equal(second, want) {
				t.Errorf("P2: written over at %d, the other Log(%d) is %v, want %v", to, from, second, want)
			}
			logged(t, c, all...)
		}
	}
}

// A list that Log gave stays as it is, whatever is called behind it.
func TestListsOfLogStay(t *testing.T) {
	c := begin(t, deadline(500))
	advance(t, c, 550)
	early := c.Log(0)
	own := append(c.Log(1), event(1, 2, 3))
	advance(t, c, 700)
	set(t, c, 0, 800, api.OK)
	set(t, c, 0, 0, api.OK)
	advance(t, c, 1000)
	ack(t, c, 0, api.OK)
	closes(t, c, api.OK)
	if want := []api.Event{event(500, 0, 0), event(510, 0, 1)}; !slices.Equal(early, want) {
		t.Errorf("P2: a list that came out became %v", early)
	}
	if want := []api.Event{event(510, 0, 1), event(1, 2, 3)}; !slices.Equal(own, want) {
		t.Errorf("P2: a list that its owner made longer became %v", own)
	}
	logged(t, c, event(500, 0, 0), event(510, 0, 1), event(600, 0, 2), event(700, 0, 0), event(710, 0, 1), event(800, 0, 2))
}

// A list may be made longer by its owner: behind it lies no room of the case's, even if nothing is in it.
func TestListsOfLogHaveTheirOwnRoom(t *testing.T) {
	c := begin(t, with(form(input(0)), rule(0)))
	mine := event(1, 2, 3)
	for count := range 40 {
		var lists [][]api.Event
		for from := -1; from <= count+1; from++ {
			lists = append(lists, append(c.Log(from), mine))
		}
		set(t, c, 0, 1, api.OK)
		set(t, c, 0, 0, api.OK)
		for i, list := range lists {
			if len(list) < 1 || list[len(list)-1] != mine {
				t.Errorf("P2: Log(%d) of %d events, made longer, became %v", i-1, count, list)
			}
		}
		logged(t, c, make([]api.Event, count+1)...)
	}
}

func TestAckOfTheExamples(t *testing.T) {
	c := begin(t, deadline(500))
	advance(t, c, 550)
	ack(t, c, 0, api.OK)
	state(t, c, acked(500, 1))
	ack(t, c, 0, api.ErrIdle)
	advance(t, c, 600)
	logged(t, c, event(500, 0, 0), event(510, 0, 1))
	set(t, c, 0, 0, api.OK)
	state(t, c, acked(500, 1))
	advance(t, c, 1000000000)
	logged(t, c, event(500, 0, 0), event(510, 0, 1))
	state(t, c, acked(500, 1))
}

// Acked at an instant at which it was lit or came to a level, no later level comes.
func TestAckAtTheInstantOfAnEvent(t *testing.T) {
	c := begin(t, deadline(500))
	advance(t, c, 500)
	ack(t, c, 0, api.OK)
	advance(t, c, 700)
	logged(t, c, event(500, 0, 0))
	state(t, c, acked(500, 0))
	c = begin(t, deadline(0))
	ack(t, c, 0, api.OK)
	advance(t, c, 700)
	logged(t, c, event(0, 0, 0))
	c = begin(t, deadline(500))
	advance(t, c, 600)
	ack(t, c, 0, api.OK)
	state(t, c, acked(500, 2))
	logged(t, c, event(500, 0, 0), event(510, 0, 1), event(600, 0, 2))
}

// A rule is acked till it is not lit any more; lit again, its levels come again.
func TestAckLastsTillTheRuleIsOut(t *testing.T) {
	c := begin(t, deadline(500))
	advance(t, c, 505)
	ack(t, c, 0, api.OK)
	set(t, c, 0, 800, api.OK)
	state(t, c, api.State{})
	ack(t, c, 0, api.ErrIdle)
	advance(t, c, 800)
	state(t, c, lit(800, 0))
	ack(t, c, 0, api.OK)
	ack(t, c, 0, api.ErrIdle)
	set(t, c, 0, 900, api.OK)
	advance(t, c, 1000)
	state(t, c, lit(900, 2))
	logged(t, c, event(500, 0, 0), event(800, 0, 0), event(900, 0, 0), event(910, 0, 1), event(1000, 0, 2))
}

// The clock puts a rule out too, on the way, and lights it again.
func TestAckLastsTillTheClockPutsTheRuleOut(t *testing.T) {
	c := begin(t, with(halves(), rule(6, 10)))
	advance(t, c, 5000005)
	ack(t, c, 0, api.OK)
	advance(t, c, 9999999)
	state(t, c, acked(5000000, 0))
	advance(t, c, 15000009)
	state(t, c, lit(15000000, 0))
	advance(t, c, 15000010)
	logged(t, c, event(5000000, 0, 0), event(15000000, 0, 0), event(15000010, 0, 1))
}

func TestAckIsOfOneRule(t *testing.T) {
	c := begin(t, with(form(constant(1), input(0)), rule(0, 5), rule(0, 5), rule(1, 5), rule(0, 5)))
	ack(t, c, 1, api.OK)
	ack(t, c, 2, api.ErrIdle)
	state(t, c, lit(0, 0), acked(0, 0), api.State{}, lit(0, 0))
	advance(t, c, 5)
	state(t, c, lit(0, 1), acked(0, 0), api.State{}, lit(0, 1))
	logged(t, c, event(0, 0, 0), event(0, 1, 0), event(0, 3, 0), event(5, 0, 1), event(5, 3, 1))
}

func TestAckRefusesAndChangesNothing(t *testing.T) {
	c := begin(t, with(form(constant(1), constant(0)), rule(0, 5), rule(1)))
	for _, number := range []int{-1, 2, 6, least, greatest} {
		ack(t, c, number, api.ErrName)
	}
	ack(t, c, 1, api.ErrIdle)
	state(t, c, lit(0, 0), api.State{})
	advance(t, c, 5)
	logged(t, c, event(0, 0, 0), event(5, 0, 1))
	ack(t, begin(t, form(constant(1))), 0, api.ErrName)
}

// That a case is closed stands ahead of every other error of Ack.
func TestAckOfAClosedCase(t *testing.T) {
	c := begin(t, with(form(constant(1), constant(0)), rule(0), rule(1), rule(0)))
	ack(t, c, 2, api.OK)
	closes(t, c, api.OK)
	for _, number := range []int{0, 1, 2, 3, -1, least, greatest} {
		ack(t, c, number, api.ErrClosed)
	}
	state(t, c, api.State{}, api.State{}, api.State{})
}

func TestCloseOfTheExamples(t *testing.T) {
	c := begin(t, deadline(500))
	closes(t, c, api.OK)
	advance(t, c, 1000)
	values(t, c, 500, 1)
	logged(t, c)
	state(t, c, api.State{})
	set(t, c, 0, 5, api.ErrClosed)
	ack(t, c, 0, api.ErrClosed)
	closes(t, c, api.ErrClosed)
	values(t, c, 500, 1)
}

// No rule of a closed case is lit, whether it was lit, acked or neither; what was logged stays.
func TestClosePutsEveryRuleOut(t *testing.T) {
	f := with(form(input(500), one(api.Past, 0, 0), constant(1), constant(0)), rule(1, 10, 100), rule(2, 550), rule(3), rule(2))
	c := begin(t, f)
	advance(t, c, 520)
	ack(t, c, 3, api.OK)
	state(t, c, lit(500, 1), lit(0, 0), api.State{}, acked(0, 0))
	closes(t, c, api.OK)
	log := []api.Event{event(0, 1, 0), event(0, 3, 0), event(500, 0, 0), event(510, 0, 1)}
	for _, to := range []int{520, 550, 600, 1000000000} {
		advance(t, c, to)
		state(t, c, api.State{}, api.State{}, api.State{}, api.State{})
		logged(t, c, log...)
		closes(t, c, api.ErrClosed)
	}
}

// The clock of a closed case goes on just as that of an open one, and so do its cells.
func TestCellsOfAClosedCaseGoOn(t *testing.T) {
	c := begin(t, with(halves(), rule(6)))
	d := begin(t, with(halves(), rule(6)))
	closes(t, d, api.OK)
	for _, to := range []int{0, 4999999, 5000000, 9999999, 10000000, 567890123, 999999999, 1000000000} {
		advance(t, c, to)
		advance(t, d, to)
		for cell := range 8 {
			want, _ := c.Value(cell)
			if v, wrong := d.Value(cell); v != want || wrong != api.OK {
				t.Errorf("P9: at %d Value(%d) of a closed case = %d and %d, want %d", to, cell, v, wrong, want)
			}
		}
		refuses(t, d, to-1, 1000000001)
	}
	logged(t, d)
}

func TestCloseIsOfOneCase(t *testing.T) {
	f := deadline(500)
	c := begin(t, f)
	d := begin(t, f)
	closes(t, c, api.OK)
	set(t, d, 0, 400, api.OK)
	advance(t, d, 405)
	ack(t, d, 0, api.OK)
	state(t, d, acked(400, 0))
	closes(t, d, api.OK)
}
