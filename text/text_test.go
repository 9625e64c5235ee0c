package text

import (
	"fmt"
	"strings"
	"testing"

	"docket/api"
)

func reads(t *testing.T, s string, want api.Form) {
	t.Helper()
	f, place, isText := Read(s)
	if fmt.Sprint(f) != fmt.Sprint(want) || place != 0 || !isText {
		t.Errorf("Read(%.100q) = %v, %d and %v, want %v", s, f, place, isText, want)
	}
}

func refuses(t *testing.T, s string, want int) {
	t.Helper()
	f, place, isText := Read(s)
	if fmt.Sprint(f) != fmt.Sprint(api.Form{}) || place != want || isText {
		t.Errorf("Read(%.100q) = %v, %d and %v, want %d", s, f, place, isText, want)
	}
}

// Whether the form has an error is not asked here.
func TestReadOfTextsOfWrongForms(t *testing.T) {
	reads(t, "w 0\n", api.Form{})
	reads(t, "w -9999999999 5 -5 9999999999\n", api.Form{Week: -9999999999, Holidays: []int{5, -5, 9999999999}})
	reads(t, "w 31\nr -1 3 2 1\nr 7\n", api.Form{Week: 31, Rules: []api.Rule{{Guard: -1, Steps: []int{3, 2, 1}}, {Guard: 7}}})
	reads(t, "w 31\nc 9 -1 99 9999999999\nc 10 0\nc 11 1 2\n", api.Form{Week: 31, Cells: []api.Cell{
		{Kind: api.If, A: -1, B: 99, C: 9999999999}, {Kind: api.Past}, {Kind: api.Age, A: 1, K: 2},
	}})
	reads(t, "w 1\n"+strings.Repeat("c 0 0\n", 5000), api.Form{Week: 1, Cells: make([]api.Cell, 5000)})
}

func TestReadStopsAtTheFirstByteThatDoesNotFit(t *testing.T) {
	for s, place := range map[string]int{
		"": 0, "c 1 1\n": 0, "w": 1, "w\n": 1, "w 1": 3, "w 1\nw 1\n": 4, "w 1\nc": 5, "w 1\nc 1 1": 9, "w 1\nc 1 1 1\n": 9, "w 1\nc 13 1\n": 7,
		"w 1\nr": 5, "w 1\nr 0\nc 1 1\n": 8, "w 1\nr 0 -\n": 9, "w 01\n": 3, "w -0\n": 3, "w 11111111111\n": 12, "w 1\n\n": 4,
	} {
		refuses(t, s, place)
	}
}

func TestWriteAndReadAgain(t *testing.T) {
	f := api.Form{
		Week:     31,
		Holidays: []int{7, 8},
		Cells:    []api.Cell{{Kind: api.Input, K: -500}, {Kind: api.Past}, {Kind: api.If, A: 1, B: 0, C: 1}, {Kind: api.Due, A: 2, K: 250}},
		Rules:    []api.Rule{{Guard: 1, Steps: []int{10, 100}}, {Guard: 2}},
	}
	s := "w 31 7 8\nc 0 -500\nc 10 0\nc 9 1 0 1\nc 12 2 250\nr 1 10 100\nr 2\n"
	if got := Write(f); got != s {
		t.Errorf("Write: %q, want %q", got, s)
	}
	reads(t, s, f)
}
