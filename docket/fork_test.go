package docket_test

import (
	"fmt"
	"math/rand"
	"slices"
	"testing"

	"docket/api"
	"docket/docket"
)

func fork(t *testing.T, c *docket.Case) *docket.Case {
	t.Helper()
	was := look(c)
	d := c.Fork()
	if d == nil || d == c {
		t.Fatal("P12: Fork() gives no second case")
	}
	if is := look(d); is != was {
		t.Errorf("P12: the fork of %s is %s", was, is)
	}
	if is := look(c); is != was {
		t.Errorf("P12: Fork() made %s of %s", is, was)
	}
	return d
}

// half is a case of which much is half done: filled in, advanced, one rule acked, one lit, one to come.
func half(t *testing.T) *docket.Case {
	t.Helper()
	f := form(input(500), one(api.Past, 0, 0), input(-7), two(api.Add, 0, 2), one(api.Due, 0, 1), input(0))
	f.Holidays = []int{1, 2}
	c := begin(t, with(f, rule(1, 10, 100, 200), rule(0, 20, 700), rule(1, 150), rule(5, 3)))
	set(t, c, 0, 400, api.OK)
	advance(t, c, 450)
	ack(t, c, 0, api.OK)
	return c
}

// future has all that a case shows from now on, and its answers to calls that a closed case refuses.
func future(t *testing.T, c *docket.Case) []string {
	t.Helper()
	var shown []string
	for _, to := range []int{450, 460, 550, 600, 700, 1000} {
		advance(t, c, max(to, c.Now()))
		shown = append(shown, look(c))
	}
	shown = append(shown, fmt.Sprint(c.Set(5, 1), c.Set(0, 2000), look(c)))
	shown = append(shown, fmt.Sprint(c.Ack(3), look(c)))
	advance(t, c, max(3000, c.Now()))
	shown = append(shown, fmt.Sprint(look(c), c.Close()))
	advance(t, c, 1000000000)
	return append(shown, look(c))
}

const acts = 7

// act does one of the things that change a case, or a list that it gave; none, if number is none of them.
func act(t *testing.T, c *docket.Case, number int) {
	t.Helper()
	switch number {
	case 0:
		set(t, c, 0, 900, api.OK)
	case 1:
		set(t, c, 5, 1, api.OK)
		set(t, c, 2, 1, api.OK)
	case 2:
		advance(t, c, 550)
	case 3:
		ack(t, c, 1, api.OK)
	case 4:
		closes(t, c, api.OK)
	case 5:
		scribble(c.Log(0))
		scribble(c.Log(1))
	case 6:
		advance(t, c, 1000000000)
		closes(t, c, api.OK)
	}
}

func TestAForkIsJustLikeItsCase(t *testing.T) {
	for number := -1; number < acts; number++ {
		c := half(t)
		act(t, c, number)
		d := fork(t, c)
		if n, comes := c.Next(); comes {
			next(t, d, n)
		} else {
			nextIsNone(t, d)
		}
		for cell := range 6 {
			if n, comes, _ := c.When(cell); comes {
				when(t, d, cell, n)
			} else {
				whenIsNone(t, d, cell)
			}
		}
		want := future(t, c)
		if got := future(t, d); !slices.Equal(got, want) {
			t.Errorf("P12: behind act %d the fork shows %q, its case %q", number, got, want)
		}
	}
}

// Whatever is done to one of two, the other is as if nothing were.
func TestForkAndCaseHaveNothingToDoWithEachOther(t *testing.T) {
	want := future(t, half(t))
	for number := range acts {
		c := half(t)
		d := fork(t, c)
		act(t, c, number)
		if got := future(t, d); !slices.Equal(got, want) {
			t.Errorf("P12: behind act %d of its case the fork shows %q, want %q", number, got, want)
		}
		c = half(t)
		d = fork(t, c)
		act(t, d, number)
		if got := future(t, c); !slices.Equal(got, want) {
			t.Errorf("P12: behind act %d of its fork the case shows %q, want %q", number, got, want)
		}
	}
}

func TestForksInTurn(t *testing.T) {
	c := begin(t, deadline(500))
	d := fork(t, c)
	set(t, c, 0, 100, api.OK)
	set(t, d, 0, 200, api.OK)
	values(t, c, 100, 0)
	values(t, d, 200, 0)
	advance(t, c, 205)
	values(t, d, 200, 0)
	logged(t, d)
	advance(t, d, 204)
	logged(t, c, event(100, 0, 0), event(110, 0, 1), event(200, 0, 2))
	logged(t, d, event(200, 0, 0))
	ack(t, d, 0, api.OK)
	state(t, c, lit(100, 2))
	state(t, d, acked(200, 0))
	ack(t, c, 0, api.OK)
	ack(t, c, 0, api.ErrIdle)
	closes(t, c, api.OK)
	state(t, c, api.State{})
	state(t, d, acked(200, 0))
	set(t, c, 0, 1000, api.ErrClosed)
	set(t, d, 0, 1000, api.OK)
	advance(t, d, 1010)
	logged(t, d, event(200, 0, 0), event(1000, 0, 0), event(1010, 0, 1))
	closes(t, d, api.OK)
	closes(t, c, api.ErrClosed)
	closes(t, d, api.ErrClosed)
	logged(t, c, event(100, 0, 0), event(110, 0, 1), event(200, 0, 2))
	if c.Now() != 205 || d.Now() != 1010 {
		t.Errorf("P12: the instants are %d and %d", c.Now(), d.Now())
	}
}

// A fork of a closed case is closed; one that was made ahead of that is not.
func TestForkOfAClosedCase(t *testing.T) {
	c := begin(t, deadline(500))
	open := fork(t, c)
	closes(t, c, api.OK)
	d := fork(t, c)
	set(t, d, 0, 1, api.ErrClosed)
	ack(t, d, 0, api.ErrClosed)
	closes(t, d, api.ErrClosed)
	advance(t, d, 1000)
	values(t, d, 500, 1)
	logged(t, d)
	advance(t, open, 1000)
	logged(t, open, event(500, 0, 0), event(510, 0, 1), event(600, 0, 2))
	closes(t, open, api.OK)
}

// The logs go on side by side, however many events there were when they parted.
func TestLogsOfForksHaveTheirOwnRoom(t *testing.T) {
	c := begin(t, with(form(input(0), input(0)), rule(0), rule(1)))
	var log []api.Event
	for range 40 {
		first, second := fork(t, c), fork(t, c)
		third := fork(t, first)
		set(t, first, 0, 1, api.OK)
		set(t, second, 1, 1, api.OK)
		advance(t, third, 5)
		set(t, third, 0, 1, api.OK)
		set(t, c, 0, 1, api.OK)
		set(t, c, 0, 0, api.OK)
		logged(t, first, append(slices.Clone(log), event(0, 0, 0))...)
		logged(t, second, append(slices.Clone(log), event(0, 1, 0))...)
		logged(t, third, append(slices.Clone(log), event(5, 0, 0))...)
		log = append(log, event(0, 0, 0))
		logged(t, c, log...)
	}
}

// The lists of a case and of its forks are each their owner's.
func TestListsOfForksAreTheCallers(t *testing.T) {
	c := half(t)
	d := fork(t, c)
	x := fork(t, d)
	cases := []*docket.Case{c, d, x}
	for _, writer := range cases {
		for _, reader := range cases {
			kept, want := reader.Log(0), reader.Log(0)
			was := look(reader)
			for from := -1; from <= len(want); from++ {
				scribble(writer.Log(from))
			}
			if !slices.Equal(kept, want) {
				t.Errorf("P2: a list that came out became %v, want %v", kept, want)
			}
			if is := look(reader); is != was {
				t.Errorf("P12: lists written over made %s of %s", is, was)
			}
		}
		writer.Set(5, 1)
		writer.Set(5, 0)
	}
}

func TestForkOfAFork(t *testing.T) {
	c := begin(t, deadline(500))
	d := fork(t, c)
	set(t, d, 0, 600, api.OK)
	x := fork(t, d)
	set(t, x, 0, 700, api.OK)
	y := fork(t, x)
	closes(t, x, api.OK)
	advance(t, c, 1000)
	advance(t, y, 705)
	ack(t, y, 0, api.OK)
	advance(t, d, 610)
	advance(t, y, 1000)
	logged(t, c, event(500, 0, 0), event(510, 0, 1), event(600, 0, 2))
	logged(t, d, event(600, 0, 0), event(610, 0, 1))
	logged(t, x)
	logged(t, y, event(700, 0, 0))
	values(t, c, 500, 1)
	values(t, d, 600, 1)
	values(t, x, 700, 0)
	values(t, y, 700, 1)
	next(t, d, 700)
	next(t, x, 700)
	nextIsNone(t, y)
}

// The form that New was given is the caller's, for a fork too.
func TestForksKeepNothingThatWasHandedIn(t *testing.T) {
	f := full()
	c := begin(t, f)
	d := fork(t, c)
	want := look(c)
	f.Cells[0] = constant(50)
	f.Holidays[1] = 3
	f.Rules[0].Guard = 77
	f.Rules[0].Steps[0] = 77
	if is := look(d); is != want {
		t.Errorf("P2: the fork became %s, want %s", is, want)
	}
	advance(t, d, 100)
	logged(t, d, event(0, 0, 0), event(5, 0, 1), event(6, 0, 2))
	set(t, d, 0, 86400, api.OK)
	if f.Cells[0] != constant(50) {
		t.Error("P2: Set of a fork wrote into the form that New was given")
	}
}

// Random cases fork, and forks of them again; each is held against a model of its own.
func TestForksGoTheirOwnWays(t *testing.T) {
	r := rand.New(rand.NewSource(7))
	apart := 0
	for range 150 {
		f := busy(r)
		cases, models := []*docket.Case{begin(t, f)}, []*model{newModel(f)}
		for range 25 {
			i := r.Intn(len(cases))
			if len(cases) < 6 && r.Intn(3) == 0 {
				cases = append(cases, fork(t, cases[i]))
				models = append(models, models[i].fork())
			} else {
				play(t, r, cases[i], models[i])
			}
			for k, c := range cases {
				logged(t, c, models[k].log...)
				state(t, c, models[k].states...)
				values(t, c, models[k].values()...)
				if c.Now() != models[k].now {
					t.Errorf("P12: Now() = %d, want %d", c.Now(), models[k].now)
				}
			}
		}
		if t.Failed() {
			t.Fatalf("the form is %+v", f)
		}
		for _, m := range models[1:] {
			if !slices.Equal(m.log, models[0].log) {
				apart++
			}
		}
	}
	if apart < 100 {
		t.Errorf("the random cases prove little: %d logs of forks differ", apart)
	}
}
