package docket_test

import (
	"fmt"
	"math/rand"
	"slices"
	"strings"
	"testing"

	"docket/api"
	"docket/docket"
)

func sameRule(a, b api.Rule) bool { return a.Guard == b.Guard && slices.Equal(a.Steps, b.Steps) }

// sameForm takes a list of nothing and nil for the same.
func sameForm(f, g api.Form) bool {
	return f.Week == g.Week && slices.Equal(f.Holidays, g.Holidays) && slices.Equal(f.Cells, g.Cells) && slices.EqualFunc(f.Rules, g.Rules, sameRule)
}

func parses(t *testing.T, s string, want api.Form) {
	t.Helper()
	if f, wrong, at := docket.Parse(s); !sameForm(f, want) || wrong != api.OK || at != 0 {
		t.Errorf("P14: Parse(%q) = %+v, %d and %d, want %+v", s, f, wrong, at, want)
	}
}

func doesNotParse(t *testing.T, s string, want api.Errno, place int) {
	t.Helper()
	if f, wrong, at := docket.Parse(s); !sameForm(f, api.Form{}) || wrong != want || at != place {
		t.Errorf("P14: Parse(%.200q) = %+v, %d and %d, want %d and %d", s, f, wrong, at, want, place)
	}
}

func TestParseOfTheExamples(t *testing.T) {
	f := deadline(500)
	f.Holidays = []int{7, 8}
	parses(t, "w 31 7 8\nc 0 500\nc 10 0\nr 1 10 100\n", f)
	doesNotParse(t, "w 31", api.ErrText, 4)
	doesNotParse(t, "w 031", api.ErrText, 3)
	doesNotParse(t, "w -0", api.ErrText, 3)
	doesNotParse(t, "c 0 1", api.ErrText, 0)
	doesNotParse(t, "w 31\nc 13", api.ErrText, 8)
	doesNotParse(t, "w 31\nc 2 0\n", api.ErrText, 10)
	doesNotParse(t, "w 31\n", api.ErrForm, 0)
	doesNotParse(t, "w 31\nc 10 5\n", api.ErrCell, 0)
}

func TestParseOfEveryKind(t *testing.T) {
	parses(t, everyKindText, everyKind())
}

// Numbers that a row does not name are 0, also behind lines of kinds whose rows name more.
func TestParseGivesNoughtForWhatNoRowNames(t *testing.T) {
	for _, kinds := range [][]int{{0, 9, 1}, {1, 9, 10, 2}, {0, 11, 10}, {0, 12, 2, 9}, {1, 8, 12, 11, 10}} {
		f := form()
		for i, kind := range kinds {
			c := api.Cell{Kind: kind, A: max(i-1, 0), B: max(i-1, 0), C: max(i-1, 0), K: 77}
			if kind == api.Age {
				c.K = 1000077
			}
			f.Cells = append(f.Cells, c)
		}
		parses(t, spelled(f), plain(f))
	}
}

// A form that came out of Parse is one that New takes.
func TestParsedFormsMakeCases(t *testing.T) {
	f, _, _ := docket.Parse("w 31 7 8\nc 0 500\nc 10 0\nr 1 10 100\nc")
	if !sameForm(f, api.Form{}) {
		t.Errorf("P14: a form in spite of an error: %+v", f)
	}
	f, _, _ = docket.Parse("w 31 7 8\nc 0 500\nc 10 0\nr 1 10 100\n")
	c := begin(t, f)
	advance(t, c, 1000)
	values(t, c, 500, 1)
	logged(t, c, event(500, 0, 0), event(510, 0, 1), event(600, 0, 2))
}

func TestParseOfNumbers(t *testing.T) {
	for _, n := range []int{0, 1, 9, 10, 100, 999999999, 1000000000, 1999999999, 2000000000, -1, -9, -10, -2000000000} {
		parses(t, fmt.Sprintf("w 31\nc 1 %d\n", n), form(constant(n)))
	}
	// Ten digits are a number, though no value; the ones that wrap at 32 bits would be values.
	for _, n := range []string{"2000000001", "-2000000001", "4294967296", "4294967297", "-4294967297", "8589934593", "9999999999", "-9999999999"} {
		doesNotParse(t, "w 31\nc 1 0\nc 1 "+n+"\n", api.ErrCell, 1)
		doesNotParse(t, "w 31\nc 1 0\nc 10 "+n+"\n", api.ErrCell, 1)
		doesNotParse(t, "w "+n+"\nc 1 0\n", api.ErrForm, 0)
		doesNotParse(t, "w 31 "+n+"\nc 1 0\n", api.ErrCalendar, 0)
		doesNotParse(t, "w 31\nc 1 0\nr "+n+"\n", api.ErrRule, 0)
		doesNotParse(t, "w 31\nc 1 0\nr 0 "+n+"\n", api.ErrRule, 0)
	}
}

// Each writing is tried as Week, holiday, K, cell's number, guard and step.
func TestParseOfWhatIsNoNumber(t *testing.T) {
	for _, head := range []string{"w ", "w 31 ", "w 31 1 ", "w 31\nc 0 ", "w 31\nc 1 ", "w 31\nc 4 ", "w 31\nc 4 0 ", "w 31\nc 9 0 0 ", "w 31\nc 10 ", "w 31\nc 11 ", "w 31\nc 12 0 ", "w 31\nc 1 1\nr ", "w 31\nc 1 1\nr 0 "} {
		for _, c := range []struct {
			s  string
			at int
		}{
			{"", 0}, {"\n", 0}, {" ", 0}, {" 1\n", 0}, {"+1\n", 0}, {"x\n", 0}, {"c\n", 0}, {"\x00", 0}, {"\xff\xfe", 0}, {"\t1\n", 0}, {"٣\n", 0},
			{"/\n", 0}, {":\n", 0},
			{"-", 1}, {"-\n", 1}, {"- 1\n", 1}, {"--1\n", 1}, {"-0\n", 1}, {"-01\n", 1}, {"-x\n", 1},
			{"00\n", 1}, {"01\n", 1}, {"0-1\n", 1}, {"0x1\n", 1}, {"0", 1}, {"5", 1}, {"5\r\n", 1}, {"5\x00\n", 1}, {"5.0\n", 1}, {"5,\n", 1}, {"5-\n", 1},
			{"-5", 2}, {"-5-\n", 2}, {"1234567890", 10}, {"12345678901\n", 10}, {"-12345678901\n", 11}, {"10000000000\n", 10},
			{"99999999999999999999999999\n", 10}, {"18446744073709551617\n", 10}, {strings.Repeat("1", 1000000), 10},
		} {
			doesNotParse(t, head+c.s, api.ErrText, len(head)+c.at)
		}
	}
}

func TestParseOfKinds(t *testing.T) {
	for _, c := range []struct {
		s  string
		at int
	}{
		{"c", 1}, {"c\n", 1}, {"c0 1\n", 1}, {"c\t0 1\n", 1}, {"c ", 2}, {"c  0 1\n", 2}, {"c -1 1\n", 2}, {"c +1 1\n", 2}, {"c x\n", 2}, {"c \n", 2}, {"c : 1\n", 2}, {"c / 1\n", 2},
		{"c 0", 3}, {"c 0\n", 3}, {"c 00 1\n", 3}, {"c 01 1\n", 3}, {"c 02 1\n", 3}, {"c 1", 3}, {"c 1\n", 3}, {"c 13 1\n", 3}, {"c 14 1\n", 3}, {"c 19 1\n", 3}, {"c 1x\n", 3}, {"c 1-1\n", 3},
		{"c 2", 3}, {"c 20 1 1\n", 3}, {"c 3", 3}, {"c 30 1 1\n", 3}, {"c 90 1 1 1\n", 3}, {"c 99\n", 3}, {"c 22\n", 3},
		{"c 10", 4}, {"c 10\n", 4}, {"c 11\n", 4}, {"c 12\n", 4}, {"c 100 1\n", 4}, {"c 110 1 1\n", 4}, {"c 12x", 4}, {"c 120\n", 4},
	} {
		doesNotParse(t, "w 31\n"+c.s, api.ErrText, 5+c.at)
		doesNotParse(t, "w 31\nc 1 0\n"+c.s, api.ErrText, 11+c.at)
	}
}

// A cell's line has just as many numbers as its kind.
func TestParseOfLinesTooShortOrTooLong(t *testing.T) {
	for kind, row := range rows {
		for count := range 6 {
			head := fmt.Sprintf("w 31\nc 1 2000000\nc %d", kind)
			numbers := strings.Repeat(" 0", count)
			switch {
			case count < len(row):
				doesNotParse(t, head+numbers+"\n", api.ErrText, len(head)+2*count)
				doesNotParse(t, head+numbers, api.ErrText, len(head)+2*count)
			case count > len(row):
				doesNotParse(t, head+numbers+"\n", api.ErrText, len(head)+2*len(row))
			case kind == api.Age:
				doesNotParse(t, head+numbers+"\n", api.ErrCell, 1)
				parses(t, head+" 0 1000000\n", form(constant(2000000), one(api.Age, 0, 1000000)))
			default:
				parses(t, head+numbers+"\n", form(constant(2000000), api.Cell{Kind: kind}))
			}
		}
	}
	doesNotParse(t, "w\n", api.ErrText, 1)
	doesNotParse(t, "w 31\nc 1 0\nr\n", api.ErrText, 12)
	doesNotParse(t, "w 31\nc 1 0\nr", api.ErrText, 12)
}

func TestParseOfLinesOutOfOrder(t *testing.T) {
	for _, c := range []struct {
		s  string
		at int
	}{
		{"", 0}, {"\n", 0}, {" w 31\n", 0}, {"W 31\n", 0}, {"c 1 1\n", 0}, {"r 0\n", 0}, {"31\n", 0}, {"x", 0}, {"\x00", 0}, {"\ufeffw 31\n", 0},
		{"w 31\nw 31\n", 5}, {"w 31\nc 1 1\nw 31\n", 11}, {"w 31\nc 1 1\nr 0\nw 31\n", 15},
		{"w 31\nr 0\nc 1 1\n", 9}, {"w 31\nc 1 1\nr 0\nc 1 1\nr 0\n", 15},
		{"w 31\n\n", 5}, {"w 31\nc 1 1\n\n", 11}, {"w 31\nc 1 1\nr 0\n\n", 15},
		{"w 31\n ", 5}, {"w 31\nc 1 1\n ", 11}, {"w 31\nc 1 1\nr 0\n ", 15}, {"w 31\nc 1 1\nr 0\nx", 15}, {"w 31\nc 1 1\nr 0\n\x00", 15},
		{"w 31\n1\n", 5}, {"w 31\nC 1 1\n", 5}, {"w 31\nc 1 1\nR 0\n", 11}, {"w31\n", 1}, {"ww 31\n", 1}, {"w 31\ncc 1 1\n", 6}, {"w 31\nc 1 1\nr0\n", 12},
		{"w 31  5\n", 5}, {"w 31\nc  1 1\n", 7}, {"w 31\nc 4 0  0\n", 11}, {"w 31\nc 4 0 \n", 11}, {"w 31\nc 1 1\nr 0  1\n", 15},
		{"w 31 \n", 5}, {"w 31\nc 1 1 \n", 10}, {"w 31\nc 1 1\nr 0 \n", 15}, {"w 31\r\nc 1 1\r\n", 4}, {"w 31c 1 1\n", 4}, {"w 31\nc 1 1r 0\n", 10},
	} {
		doesNotParse(t, c.s, api.ErrText, c.at)
	}
}

// A text that ends too early has its error where it ends, unless it ends with a line.
func TestParseOfWhatEndsTooEarly(t *testing.T) {
	f := everyKind()
	for _, s := range []string{everyKindText, "w 31 7 8\nc 0 500\nc 10 0\nr 1 10 100\n", "w 127 0\nc 1 -12\nr 0 5\nr 0\n"} {
		for i := range s {
			if i == 0 || s[i-1] != '\n' {
				doesNotParse(t, s[:i], api.ErrText, i)
			}
		}
	}
	// Cell 9 needs cell 12, so the lines ahead of that make no form.
	lines := strings.SplitAfter(everyKindText, "\n")
	for count := 1; count < len(lines); count++ {
		s := strings.Join(lines[:count], "")
		switch {
		case count == 1:
			doesNotParse(t, s, api.ErrForm, 0)
		case count <= 10:
			parses(t, s, api.Form{Week: f.Week, Holidays: f.Holidays, Cells: f.Cells[:count-1]})
		case count < 14:
			doesNotParse(t, s, api.ErrCell, 9)
		default:
			parses(t, s, api.Form{Week: f.Week, Holidays: f.Holidays, Cells: f.Cells, Rules: f.Rules[:count-14]})
		}
	}
}

func TestParseHasTheErrorsOfNew(t *testing.T) {
	some := func(count int) string {
		var s strings.Builder
		for i := range count {
			fmt.Fprintf(&s, " %d", i+1)
		}
		return s.String()
	}
	for _, c := range []struct {
		s     string
		wrong api.Errno
		place int
	}{
		{"w 31\n", api.ErrForm, 0}, {"w 31\nr 0\n", api.ErrForm, 0}, {"w 0\nc 1 1\n", api.ErrForm, 0}, {"w 128\nc 1 1\n", api.ErrForm, 0}, {"w -1\nc 1 1\n", api.ErrForm, 0},
		{"w 31\n" + strings.Repeat("c 1 1\n", 21), api.ErrForm, 0}, {"w 31\n" + strings.Repeat("c 1 1\n", 100000), api.ErrForm, 0},
		{"w 31\nc 1 1\n" + strings.Repeat("r 0\n", 7), api.ErrForm, 0}, {"w 31\nc 1 1\n" + strings.Repeat("r 0\n", 100000), api.ErrForm, 0},
		{"w 31 5 4\nc 1 1\n", api.ErrCalendar, 1}, {"w 31 4 4\nc 1 1\n", api.ErrCalendar, 1}, {"w 31 -1\nc 1 1\n", api.ErrCalendar, 0}, {"w 31 0 1 11575\nc 1 1\n", api.ErrCalendar, 2},
		{"w 31" + some(21) + "\nc 1 1\n", api.ErrCalendar, 20}, {"w 31" + strings.Repeat(" 0", 100000) + "\nc 1 1\n", api.ErrCalendar, 20},
		{"w 31\nc 1 1\nc 10 2\n", api.ErrCell, 1}, {"w 31\nc 10 -1\n", api.ErrCell, 0}, {"w 31\nc 1 1\nc 9 0 0 2\n", api.ErrCell, 1}, {"w 31\nc 0 -2000000001\n", api.ErrCell, 0},
		{"w 31\nc 0 0\nc 11 0 999999\n", api.ErrCell, 1}, {"w 31\nc 0 0\nc 11 0 1000000001\n", api.ErrCell, 1}, {"w 31\nc 0 0\nc 12 0 251\n", api.ErrCell, 1}, {"w 31\nc 0 0\nc 12 0 -1\n", api.ErrCell, 1},
		{"w 31\nc 10 0\n", api.ErrCycle, 0}, {"w 31\nc 2 1 1\nc 2 2 2\nc 2 1 1\n", api.ErrCycle, 1}, {"w 31\nc 1 0\nc 9 0 0 1\n", api.ErrCycle, 1},
		{"w 31\nc 1 1\nr 1\n", api.ErrRule, 0}, {"w 31\nc 1 1\nr 0\nr -1\n", api.ErrRule, 1}, {"w 31\nc 1 1\nr 0\nr 0\nr 0 2 1\n", api.ErrRule, 2}, {"w 31\nc 1 1\nr 0 0\n", api.ErrRule, 0},
		{"w 31\nc 1 1\nr 0 1000000001\n", api.ErrRule, 0}, {"w 31\nc 1 1\nr 0 1 2 3 4\nr 0 1 2 3 4 5\n", api.ErrRule, 1}, {"w 31\nc 1 1\nr 0" + some(100000) + "\n", api.ErrRule, 0},
		// The first of several.
		{"w 0 1 1\nc 10 0\nc 10 9\nr 9\n", api.ErrForm, 0}, {"w 31 1 1\nc 10 0\nc 10 9\nr 9\n", api.ErrCalendar, 1}, {"w 31\nc 10 0\nc 10 9\nr 9\n", api.ErrCell, 1}, {"w 31\nc 10 0\nr 9\n", api.ErrCycle, 0},
		// That it is no text stands ahead of all.
		{"w 0 1 1\nc 10 0\nc 10 9\nr 9\nx", api.ErrText, 26}, {"w 31\n" + strings.Repeat("c 1 1\n", 21) + "c", api.ErrText, 132},
	} {
		doesNotParse(t, c.s, c.wrong, c.place)
	}
	parses(t, "w 31\n"+strings.Repeat("c 0 0\n", 20)+strings.Repeat("r 0\n", 6), with(form(make([]api.Cell, 20)...), make([]api.Rule, 6)...))
}

// What Print writes Parse reads, and Print of that is the same text again.
func TestThereAndBackWithRandomForms(t *testing.T) {
	r := rand.New(rand.NewSource(13))
	for range 3000 {
		f := anyForm(r)
		s, wrong := docket.Print(f)
		if wrong != api.OK {
			t.Fatalf("P13: Print(%+v) = %d", f, wrong)
		}
		parses(t, s, plain(f))
		back, _, _ := docket.Parse(s)
		prints(t, back, s)
	}
}

// A number of a random form is made another; then Parse and Print must answer as New does.
func TestRandomFormsWithAnErrorAnswerAsNew(t *testing.T) {
	r := rand.New(rand.NewSource(17))
	seen := make([]int, 6)
	for range 6000 {
		f := plain(anyForm(r))
		n := []int{-1, 0, 1, 20, 128, 251, 11575, 1000000001, 2000000001, 9999999999, -9999999999}[r.Intn(11)]
		numbers := []*int{&f.Week}
		for i := range f.Holidays {
			numbers = append(numbers, &f.Holidays[i])
		}
		for i := range f.Cells {
			numbers = append(numbers, &f.Cells[i].A, &f.Cells[i].B, &f.Cells[i].C, &f.Cells[i].K)
		}
		for i := range f.Rules {
			numbers = append(numbers, &f.Rules[i].Guard)
			for k := range f.Rules[i].Steps {
				numbers = append(numbers, &f.Rules[i].Steps[k])
			}
		}
		*numbers[r.Intn(len(numbers))] = n
		_, want, place := docket.New(f)
		seen[want]++
		if want == api.OK {
			prints(t, f, spelled(f))
			parses(t, spelled(f), plain(f))
		} else {
			doesNotPrint(t, f, want)
			doesNotParse(t, spelled(f), want, place)
		}
	}
	if slices.Min(seen) < 20 {
		t.Errorf("the random forms prove little: %v of each error", seen)
	}
}

// scrawl writes over a list of a form and over all its spare room: 0 is the holidays, 1 the cells, 2 the rules,
// from 3 on the steps of the rules.
func scrawl(f api.Form, list int) {
	switch list {
	case 0:
		scrawlNumbers(f.Holidays)
	case 1:
		cells := f.Cells[:cap(f.Cells)]
		for i := range cells {
			cells[i] = api.Cell{Kind: -7, A: -7, B: -7, C: -7, K: -7}
		}
	case 2:
		rules := f.Rules[:cap(f.Rules)]
		for i := range rules {
			rules[i] = rule(-7, -7)
		}
	default:
		scrawlNumbers(f.Rules[list-3].Steps)
	}
}

func scrawlNumbers(numbers []int) {
	numbers = numbers[:cap(numbers)]
	for i := range numbers {
		numbers[i] = -7
	}
}

// without shows all lists of a form but one.
func without(f api.Form, list int) string {
	s := fmt.Sprint(f.Week)
	for i := range 3 + len(f.Rules) {
		switch {
		case i == list:
		case i == 0:
			s += fmt.Sprint(f.Holidays)
		case i == 1:
			s += fmt.Sprint(f.Cells)
		case i == 2:
			for _, r := range f.Rules {
				s += fmt.Sprint(r.Guard)
			}
		case list != 2:
			s += fmt.Sprint(f.Rules[i-3].Steps)
		}
	}
	return s
}

func TestListsOfParseAreTheCallers(t *testing.T) {
	for _, s := range []string{
		"w 31 1\nc 1 1\nr 0 1\nr 0 2\nr 0\n",
		"w 31 1 2 3\nc 1 1\nc 1 2\nc 1 3\nr 0 1 2 3\nr 1 4 5 6\nr 2 7 8 9\nr 0 1\nr 0 1 2 3 4\nr 1\n",
		everyKindText,
	} {
		want, _, _ := docket.Parse(s)
		first, _, _ := docket.Parse(s)
		for list := range 3 + len(want.Rules) {
			f, _, _ := docket.Parse(s)
			was := without(f, list)
			scrawl(f, list)
			if is := without(f, list); is != was {
				t.Errorf("P2: list %d of a form from Parse written over, the others became %s, want %s", list, is, was)
			}
			if !sameForm(first, want) {
				t.Errorf("P2: list %d of a form from Parse written over, another form became %+v", list, first)
			}
			parses(t, s, want)
			prints(t, want, s)
		}
	}
}

// The owners of two forms write over all lists of the one and lengthen those of the other.
func TestListsOfTwoFormsFromParse(t *testing.T) {
	s := "w 31 1 2 3\nc 1 1\nc 1 2\nc 1 3\nr 0 1 2 3\nr 1 4 5 6\nr 2 7\n"
	f, _, _ := docket.Parse(s)
	g, _, _ := docket.Parse(s)
	for i := range g.Rules {
		g.Rules[i].Steps = append(g.Rules[i].Steps, 100+i)
	}
	g.Holidays = append(g.Holidays, 4)
	g.Cells = append(g.Cells, constant(4))
	prints(t, f, s)
	for _, list := range []int{3, 4, 5, 2, 1, 0} {
		scrawl(f, list)
	}
	prints(t, g, "w 31 1 2 3 4\nc 1 1\nc 1 2\nc 1 3\nc 1 4\nr 0 1 2 3 100\nr 1 4 5 6 101\nr 2 7 102\n")
	h, _, _ := docket.Parse(s)
	prints(t, h, s)
}
