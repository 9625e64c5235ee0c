package docket_test

import (
	"fmt"
	"math/rand"
	"slices"
	"strings"
	"testing"

	"docket/api"
	"docket/docket"
)

// rows has, for each kind, which numbers stand behind the Kind in its line.
var rows = [13]string{"K", "K", "AB", "AB", "AB", "AB", "AB", "AB", "AB", "ABC", "A", "AK", "AK"}

func choose(a, b, c int) api.Cell { return api.Cell{Kind: api.If, A: a, B: b, C: c} }

// everyKind has a cell of each kind, in their order.
func everyKind() api.Form {
	f := form(
		input(-5), constant(2000000000), two(api.Add, 0, 1), two(api.Sub, 1, 0), two(api.Mul, 2, 3), two(api.Min, 4, 2),
		two(api.Max, 3, 5), two(api.Less, 6, 1), two(api.Same, 7, 0), choose(8, 1, 12), one(api.Past, 9, 0),
		one(api.Age, 10, 1000000), one(api.Due, 0, 250),
	)
	f.Holidays = []int{0, 7, 11574}
	return with(f, rule(10), rule(11, 1, 20, 300, 1000000000))
}

const everyKindText = "w 31 0 7 11574\nc 0 -5\nc 1 2000000000\nc 2 0 1\nc 3 1 0\nc 4 2 3\nc 5 4 2\nc 6 3 5\nc 7 6 1\nc 8 7 0\n" +
	"c 9 8 1 12\nc 10 9\nc 11 10 1000000\nc 12 0 250\nr 10\nr 11 1 20 300 1000000000\n"

// spelled writes a form by rows, with or without an error; its kinds must be kinds.
func spelled(f api.Form) string {
	var s strings.Builder
	line := func(letter byte, numbers ...int) {
		s.WriteByte(letter)
		for _, n := range numbers {
			fmt.Fprintf(&s, " %d", n)
		}
		s.WriteByte('\n')
	}
	line('w', append([]int{f.Week}, f.Holidays...)...)
	for _, c := range f.Cells {
		numbers := []int{c.Kind}
		for _, name := range rows[c.Kind] {
			numbers = append(numbers, map[rune]int{'A': c.A, 'B': c.B, 'C': c.C, 'K': c.K}[name])
		}
		line('c', numbers...)
	}
	for _, r := range f.Rules {
		line('r', append([]int{r.Guard}, r.Steps...)...)
	}
	return s.String()
}

// noisy is a form like f with n for all that no row names.
func noisy(f api.Form, n int) api.Form {
	f.Cells = slices.Clone(f.Cells)
	for i := range f.Cells {
		c := &f.Cells[i]
		for name, number := range map[string]*int{"A": &c.A, "B": &c.B, "C": &c.C, "K": &c.K} {
			if !strings.Contains(rows[c.Kind], name) {
				*number = n
			}
		}
	}
	return f
}

func plain(f api.Form) api.Form { return noisy(f, 0) }

// risen has numbers, none or up to most, each greater than the one ahead of it.
func risen(r *rand.Rand, most, from, to int) []int {
	var list []int
	for range r.Intn(most + 1) {
		n := from + r.Intn(to-from+1)
		if !slices.Contains(list, n) {
			list = append(list, n)
		}
	}
	slices.Sort(list)
	return list
}

func anyNumber(r *rand.Rand) int {
	return []int{0, 1, -1, r.Intn(30), r.Intn(4000000001) - 2000000000, 2000000000, -2000000000, least, greatest}[r.Intn(9)]
}

// anyForm has every kind of cell, numbers of every length, and anything where no row names a number.
func anyForm(r *rand.Rand) api.Form {
	n := 1 + r.Intn(20)
	f := api.Form{Week: 1 + r.Intn(127), Cells: make([]api.Cell, n), Holidays: risen(r, 20, 0, 11574)}
	places := r.Perm(n)
	for i, place := range places {
		c := api.Cell{Kind: r.Intn(2), A: anyNumber(r), B: anyNumber(r), C: anyNumber(r), K: anyNumber(r)}
		if i > 0 {
			c.Kind = r.Intn(13)
			for k, number := range []*int{&c.A, &c.B, &c.C} {
				if strings.Contains(rows[c.Kind], "ABC"[k:k+1]) {
					*number = places[r.Intn(i)]
				}
			}
		}
		switch c.Kind {
		case api.Input, api.Const:
			c.K = min(max(c.K, -2000000000), 2000000000)
		case api.Age:
			c.K = 1000000 + r.Intn(999000001)
		case api.Due:
			c.K = r.Intn(251)
		}
		f.Cells[place] = c
	}
	for range r.Intn(7) {
		f.Rules = append(f.Rules, api.Rule{Guard: r.Intn(n), Steps: risen(r, 4, 1, 1000000000)})
	}
	return f
}

func prints(t *testing.T, f api.Form, want string) {
	t.Helper()
	if s, wrong := docket.Print(f); s != want || wrong != api.OK {
		t.Errorf("P13: Print(%+v) = %q and %d, want %q", f, s, wrong, want)
	}
}

func doesNotPrint(t *testing.T, f api.Form, want api.Errno) {
	t.Helper()
	if s, wrong := docket.Print(f); s != "" || wrong != want {
		t.Errorf("P13: Print(%+v) = %q and %d, want %d", f, s, wrong, want)
	}
}

func TestPrintOfTheExample(t *testing.T) {
	f := deadline(500)
	f.Holidays = []int{7, 8}
	prints(t, f, "w 31 7 8\nc 0 500\nc 10 0\nr 1 10 100\n")
}

func TestPrintOfLittle(t *testing.T) {
	prints(t, form(constant(0)), "w 31\nc 1 0\n")
	prints(t, with(form(input(-2000000000)), rule(0)), "w 31\nc 0 -2000000000\nr 0\n")
	prints(t, api.Form{Week: 1, Holidays: []int{}, Rules: []api.Rule{}, Cells: []api.Cell{constant(-1)}}, "w 1\nc 1 -1\n")
}

func TestPrintOfEveryKind(t *testing.T) {
	prints(t, everyKind(), everyKindText)
}

func TestPrintOfAsMuchAsThereMayBe(t *testing.T) {
	f := api.Form{Week: 127}
	want := "w 127"
	for i := range 20 {
		f.Holidays = append(f.Holidays, i)
		want += fmt.Sprintf(" %d", i)
	}
	want += "\n"
	for i := range 20 {
		f.Cells = append(f.Cells, constant(i))
		want += fmt.Sprintf("c 1 %d\n", i)
	}
	for i := range 6 {
		f.Rules = append(f.Rules, rule(19-i, 1, 2, 3, 4+i))
		want += fmt.Sprintf("r %d 1 2 3 %d\n", 19-i, 4+i)
	}
	prints(t, f, want)
}

// What no row names does not stand in the text, whatever it is.
func TestPrintLeavesOutWhatNoRowNames(t *testing.T) {
	for _, n := range []int{0, 1, -1, 13, least, greatest} {
		prints(t, noisy(everyKind(), n), everyKindText)
	}
}

// wrongForms has forms with each error that New has.
func wrongForms() []api.Form {
	weeks := form(constant(0))
	weeks.Week = 128
	holiday := form(constant(0))
	holiday.Holidays = []int{3, 3}
	many := form(constant(0))
	many.Holidays = make([]int, 21)
	kinds := form(constant(0), api.Cell{Kind: 13})
	under := form(api.Cell{Kind: -1})
	return []api.Form{
		{}, form(), form(make([]api.Cell, 21)...), with(form(constant(0)), make([]api.Rule, 7)...), weeks, {Cells: []api.Cell{constant(0)}},
		holiday, many,
		kinds, under, form(two(api.Add, 0, 1)), form(constant(2000000001)), form(input(least)), form(constant(0), one(api.Age, 0, 999999)), form(constant(0), one(api.Due, 0, 251)),
		form(one(api.Past, 0, 0)), form(two(api.Add, 1, 1), two(api.Add, 2, 2), two(api.Add, 1, 1)),
		with(form(constant(0)), rule(1)), with(form(constant(0)), rule(0), rule(0, 2, 1)), with(form(constant(0)), rule(0, 1, 2, 3, 4, 5)), with(form(constant(0)), rule(0, 0)),
	}
}

func TestPrintHasTheErrorsOfNew(t *testing.T) {
	seen := make([]bool, 6)
	for _, f := range wrongForms() {
		_, wrong, _ := docket.New(f)
		seen[wrong] = true
		doesNotPrint(t, f, wrong)
	}
	if slices.Contains(seen[1:], false) || seen[api.OK] {
		t.Errorf("the errors seen are %v", seen)
	}
}

// Where several errors apply, it is the first.
func TestPrintHasTheFirstErrorOfNew(t *testing.T) {
	f := with(form(constant(0), one(api.Past, 1, 0), constant(greatest)), rule(7))
	f.Holidays = []int{-1}
	f.Week = 0
	doesNotPrint(t, f, api.ErrForm)
	f.Week = 31
	doesNotPrint(t, f, api.ErrCalendar)
	f.Holidays = nil
	doesNotPrint(t, f, api.ErrCell)
	f.Cells[2] = constant(0)
	doesNotPrint(t, f, api.ErrCycle)
	f.Cells[1] = constant(0)
	doesNotPrint(t, f, api.ErrRule)
	f.Rules = nil
	prints(t, f, "w 31\nc 1 0\nc 1 0\nc 1 0\n")
}

func TestPrintOfRandomForms(t *testing.T) {
	r := rand.New(rand.NewSource(11))
	for range 3000 {
		f := anyForm(r)
		begin(t, f)
		prints(t, f, spelled(f))
	}
}

func TestPrintWritesIntoNothing(t *testing.T) {
	f, want := full(), full()
	prints(t, f, "w 31 1 2\nc 0 0\nc 12 0 1\nr 1 5 6\n")
	f.Rules[0].Steps, want.Rules[0].Steps = f.Rules[0].Steps[:3], want.Rules[0].Steps[:3]
	if was, is := fmt.Sprint(want.Cells[:3], want.Holidays[:3], want.Rules[:2]), fmt.Sprint(f.Cells[:3], f.Holidays[:3], f.Rules[:2]); is != was {
		t.Errorf("P2: Print made %s of %s", is, was)
	}
}
